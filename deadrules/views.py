"""The nodes of one document, as sheets tell them apart [7].

The view of a node is a tuple (head, low, place, last, right, left, handed):
its kind and marks, what is noted for it as in notes.py, and what its parent
hands to it.
"""

from deadrules.trees import Tree


class Survey:
    """What notes tell of the nodes of a document; it never changes.

    `views`, `fitted` and `looks` are the lists of the views of the nodes, of
    the items of selectors that they fit, and of their styles in all sheets.
    """

    def __init__(self, notes, document):
        tree = Tree(document)
        lows, rights = noted_upwards(notes, tree)
        self.views = []
        self.fitted = []
        self.looks = []
        for at, (kind, marks, number, last) in enumerate(tree.nodes):
            left, given = self._noted(notes, tree.parents[at], tree.befores[at])
            place = notes.places.of(number)
            fits = notes.selected((kind, marks), place, last, lows[at], rights[at], left)
            self.views.append(((kind, marks), lows[at], place, last, rights[at], left, given))
            self.fitted.append(fits)
            self.looks.append(notes.styles(fits, given))

    def _noted(self, notes, parent, before):
        """Return what the nodes before it note for a node, and what its parent hands to it."""
        left = 0
        given = notes.top()
        if parent >= 0:
            left = notes.downwards(self.fitted[parent], self.views[parent][5])
            given = notes.handed(self.looks[parent])
        if before >= 0:
            left = left | notes.forwards(self.fitted[before], self.views[before][5])
        return left, given


def noted_upwards(notes, tree):
    """Return the lists of what is noted for the nodes from below, and by the siblings behind."""
    lows = [0 for _ in tree.nodes]
    rights = [0 for _ in tree.nodes]
    for at in range(len(tree.nodes) - 1, -1, -1):
        kind, marks, number, last = tree.nodes[at]
        possible = notes.fits_at_most((kind, marks), lows[at])
        fits = notes.fitting(possible, notes.places.of(number), last, rights[at])
        parent = tree.parents[at]
        before = tree.befores[at]
        if parent >= 0:
            lows[parent] = lows[parent] | notes.upwards(fits) | notes.handed_up(lows[at])
        if before >= 0:
            rights[before] = notes.backwards(fits, rights[at])
    return lows, rights


def value_told(notes, head, low):
    """Return the value [7] of a node with this kind and marks, for which this is noted from below."""
    return (*head, notes.relatives.row_of(low, ">"), notes.relatives.row_of(low, " "))


def state_told(notes, view):
    """Return the state [7] of a node with this view for one sheet."""
    head, low, place, last, right, left, given = view
    behind = [notes.relatives.row_of(right, join) for join in ("+", "~")]
    before = [notes.selectors.row_of(left, join) for join in (" ", ">", "+", "~")]
    return (value_told(notes, head, low), place, last, *behind, *before, given[0])

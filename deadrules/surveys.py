"""The states of the nodes of a document, told from the sets of the nodes that fit the items [7]."""

from deadrules.cascade import handed_on, kept_of
from deadrules.items import Places
from deadrules.reading import JOINS
from deadrules.styles import looks_of
from deadrules.trees import Tree


def state_at(sheet, document, at):
    """Return the state of the node of a document with this index."""
    tree = Tree(document)
    return Survey(sheet, document, tree, tree.bits[at]).state(at)


def all_states(sheet, document):
    """Return the list of the states of all nodes of a document."""
    tree = Tree(document)
    survey = Survey(sheet, document, tree, tree.everything)
    return [survey.state(at) for at, _ in enumerate(tree.bits)]


class Survey:
    """The nodes of a document as a sheet tells them apart; it never changes.

    The tree is that of the document, `asked` the set of the nodes whose states are asked for. What is
    noted by a join is kept as the list of the tuples of an item and the set of the nodes that fit it;
    for many nodes, which are quicker told all at once, of those for which it is noted.
    """

    def __init__(self, sheet, document, tree, asked):
        above = tree.before(asked, " ")
        selectors = sheet.selector_rows()
        relatives = [row for selector in selectors for compound in selector.compounds for row in compound.relatives]
        selected = [tree.selected(row, above) for row in selectors]
        related = [tree.related(row) for row in relatives]
        self._tree = tree
        self._document = document
        self._places = Places(selectors + relatives)
        self._of_selectors = noted(selectors, selected, 1)
        self._of_relatives = noted(relatives, related, 0)
        self._for_many = asked & asked - 1 > 0
        self._parents = tree.parents() if self._for_many else {asked: tree.before(asked, ">")}
        if self._for_many:
            self._spread()
        self._kept = kept_of(sheet)
        self._looks = looks_of(tree, sheet, [sets[-1] for sets in selected], above)

    def state(self, at):
        """Return the state of the node with this index."""
        node = self._tree.bits[at]
        kind, marks, number, last = self._document.node_at(at)
        value = (kind, marks, self._noted_behind(node, ">"), self._noted_behind(node, " "))
        behind = [self._noted_behind(node, join) for join in ("+", "~")]
        before = [self._noted_before(node, join) for join in (" ", ">", "+", "~")]
        handed = handed_on(self._looks[self._parents[node]], self._kept)
        return (value, self._places.of(number), last, *behind, *before, handed)

    def _spread(self):
        """Replace the sets of the nodes that fit the items by those of the nodes for which these are noted."""
        for join in JOINS:
            pairs = self._of_selectors[join]
            self._of_selectors[join] = [(item, self._tree.behind(nodes, join)) for item, nodes in pairs]
            pairs = self._of_relatives[join]
            self._of_relatives[join] = [(item, self._tree.before(nodes, join)) for item, nodes in pairs]

    def _noted_behind(self, node, join):
        """Return the row of the items of relatives that are noted for a node by those behind a join."""
        pairs = self._of_relatives[join]
        if not pairs:
            return ()
        return items_at(pairs, node if self._for_many else self._tree.behind(node, join))

    def _noted_before(self, node, join):
        """Return the row of the items of selectors that are noted for a node by those before a join."""
        pairs = self._of_selectors[join]
        if not pairs:
            return ()
        return items_at(pairs, node if self._for_many else self._tree.before(node, join))


def noted(rows, found, behind):
    """Return a dict from each join to what is noted by it; `found` are the lists of the sets of the nodes of the rows.

    A compound is noted by the join that many compounds behind that before it.
    """
    pairs = {join: [] for join in JOINS}
    for number, sets in enumerate(found):
        for index, join in enumerate(rows[number].joins[behind:]):
            pairs[join].append(((number, index), sets[index]))
    return pairs


def items_at(pairs, nodes):
    """Return the row of the items whose sets have one of these nodes."""
    return tuple([item for item, fitting in pairs if fitting & nodes])

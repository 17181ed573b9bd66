"""What nodes note for each other, so that each one tells which selectors it fits [7].

All that is noted is a set of items, an integer as in items.py: `low` are the
relatives behind `>` and a blank that are noted for a node by those below it,
`right` those behind `+` and `~` by the siblings behind it; `left` are the items
of selectors that are noted by the nodes above it and the siblings before it. A
join notes items of its own, so one set can hold those of several joins.
"""

from deadrules.items import Items, Places
from deadrules.manners import Manner


class Notes:
    """The items of the selectors of sheets, and of their relatives; what they tell does not change.

    `manners` are the ways in which the sheets give styles.
    """

    def __init__(self, sheets):
        rows = [row for sheet in sheets for rule in sheet.blocks() for row in rule.rows]
        compounds = [compound for row in rows for compound in row.compounds]
        related = [row for compound in compounds for row in compound.relatives]
        self.selectors = Items(rows, 1)
        self.relatives = Items(related, 0)
        self.places = Places(rows + related)
        self.manners = manners_of(sheets, self.selectors.ends)
        self._needs = needs_of(compounds, related)
        self._having = {}
        noted = self.relatives.noted
        self._below = noted[">"] | noted[" "]
        self._deep = noted[" "]
        self._following = noted["+"]
        self._later = noted["~"]
        everything = self.relatives.everything
        self._inner = everything - self.relatives.firsts
        # The items that need none behind them below the node, or among its siblings.
        self._free_below = everything - self._ahead(self._below)
        self._free_beside = everything - self._ahead(self._following | self._later)
        noted = self.selectors.noted
        self._above = noted[" "]
        self._parent = noted[">"]
        self._before = noted["+"]
        self._earlier = noted["~"]

    def _ahead(self, items):
        """Return the relatives that stand directly before one of the items."""
        return (items & self._inner) >> 1

    def fits_at_most(self, head, low):
        """Return the relatives that a node fits as far as its kind, marks, and the nodes below it tell."""
        return self.relatives.of_head(head) & (self._free_below | self._ahead(low))

    def fitting(self, possible, place, last, right):
        """Return those of the possible relatives that a node fits."""
        return possible & self.relatives.of_place(place, last) & (self._free_beside | self._ahead(right))

    def handed_up(self, low):
        """Return what a node hands on to its parent of that which is noted for it from below."""
        return low & self._deep

    def upwards(self, fits):
        """Return what a node that fits these relatives notes for its parent."""
        return fits & self._below

    def backwards(self, fits, right):
        """Return what a node that fits these relatives, and has this noted, notes for the sibling before it."""
        return fits & self._following | (fits | right) & self._later

    def selected(self, head, place, last, low, right, left):
        """Return the items of selectors that a node fits."""
        noted = (left << 1) | self.selectors.firsts
        found = self.selectors.of_head(head) & self.selectors.of_place(place, last) & noted
        return found & self._that_have(low | right)

    def downwards(self, fits, left):
        """Return what a node that fits these items, and has this noted, notes for its children."""
        return (fits | left) & self._above | fits & self._parent

    def forwards(self, fits, left):
        """Return what a node that fits these items, and has this noted, notes for the sibling behind it."""
        return fits & self._before | (fits | left) & self._earlier

    def top(self):
        """Return what is handed to a root, for each sheet."""
        return tuple([manner.top() for manner in self.manners])

    def styles(self, fits, handed):
        """Return the tuple of the styles that the sheets give to a node that fits these items."""
        return tuple([manner.style(fits, row) for manner, row in zip(self.manners, handed)])

    def handed(self, styles):
        """Return what a node with these styles hands to its children, for each sheet."""
        return tuple([manner.handed(style) for manner, style in zip(self.manners, styles)])

    def _that_have(self, noted):
        """Return the items of selectors that are left if just these relatives are noted for the node."""
        found = self._having.get(noted)
        if found is None:
            found = self.selectors.everything
            for bit, needed in self._needs:
                if needed & noted != needed:
                    found = found - (1 << bit)
            self._having[noted] = found
        return found


def manners_of(sheets, ends):
    """Return the list of the manners of sheets whose selectors have their last items at these bits."""
    found = []
    first = 0
    for sheet in sheets:
        behind = first + sum([len(rule.rows) for rule in sheet.blocks()])
        found.append(Manner(sheet, ends[first:behind]))
        first = behind
    return found


def needs_of(compounds, related):
    """Return the list of the compounds with relatives: their bits, and the first items of their relatives."""
    firsts = []
    many = 0
    for row in related:
        firsts.append(1 << many)
        many += len(row.compounds)
    found = []
    number = 0
    for bit, compound in enumerate(compounds):
        behind = number + len(compound.relatives)
        if behind > number:
            found.append((bit, sum(firsts[number:behind])))
        number = behind
    return found

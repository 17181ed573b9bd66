"""The styles of a sheet, from the items of its selectors that nodes fit [5]."""

from deadrules.cascade import Cascade, handed_on, kept_of


class Manner:
    """How a sheet gives styles; what it tells does not change.

    `ends` are the bits of the last items of its selectors, in their order.
    """

    def __init__(self, sheet, ends):
        self._cascade = Cascade(sheet, [True for _ in ends])
        self._ends = tuple(ends)
        self._whole = sum([1 << bit for bit in ends])
        self._matches = matches_of(sheet, ends)
        self._kept = kept_of(sheet)
        self._won = {}
        self._styles = {}

    def whole(self, fits):
        """Return those of the items that tell which selectors of the sheet a node fits."""
        return fits & self._whole

    def truths(self, fits):
        """Return the list of the truths whether a node fits the selectors."""
        return [fits >> bit & 1 > 0 for bit in self._ends]

    def matching(self, fits):
        """Return the list of the indexes of the rules that match."""
        return [rule for rule, items in enumerate(self._matches) if fits & items > 0]

    def is_matched(self, fits, rules):
        """Return whether all of the rules match."""
        return all([fits & self._matches[rule] > 0 for rule in rules])

    def winning(self, fits):
        """Return the tuple of the pieces that win the properties, with None for those without one."""
        key = fits & self._whole
        found = self._won.get(key)
        if found is None:
            found = self._cascade.winning(self.truths(fits))
            self._won[key] = found
        return found

    def style(self, fits, handed):
        """Return the style of a node to which this is handed."""
        key = (fits & self._whole, handed)
        found = self._styles.get(key)
        if found is None:
            found = self._cascade.style(self.winning(fits), handed)
            self._styles[key] = found
        return found

    def conditions(self, fits, handed):
        """Return the list of the conditions [8] of a node to which this is handed."""
        truths = self.truths(fits)
        style = self.style(fits, handed)
        found = []
        for at, value in enumerate(style):
            row = self._cascade.matching(at, truths)
            if row:
                good = [piece for piece in row if self._cascade.worth(at, piece, handed[at], style) == value]
                free = self._cascade.worth(at, None, handed[at], style) == value
                found.append((tuple(row), tuple(good), free))
        return found

    def handed(self, style):
        """Return what a node hands to its children of its style: None for what none of them can take."""
        return handed_on(style, self._kept)

    def top(self):
        """Return what is handed to a root."""
        return self.handed(self._cascade.top())


def matches_of(sheet, ends):
    """Return the list of the sets of the last items of the selectors of each rule."""
    found = []
    first = 0
    for rule in sheet.blocks():
        behind = first + len(rule.rows)
        found.append(sum([1 << bit for bit in ends[first:behind]]))
        first = behind
    return found

"""Which declarations win at a node, and the values that they give [5].

The selectors of a sheet are numbered in the order of its rules. What is told of
a node is the list of truths, one for each selector, whether the node fits it.
"""

from deadrules.rules import INHERIT


class Cascade:
    """The ranks and the values of the declarations of a sheet; it never changes."""

    def __init__(self, sheet):
        self._lines = tuple(sheet.lines())
        self._ranked = tuple(ranked(sheet))
        self._values = values_of(sheet)

    def top(self):
        """Return the style that the root has for that of a parent."""
        return tuple([line.default for line in self._lines])

    def winning(self, truths):
        """Return the tuple of the pieces that win the properties, with None for those without one."""
        return tuple([first_matching(row, truths) for row in self._ranked])

    def matching(self, at, truths):
        """Return the list of the pieces of a property that match, by falling rank."""
        found = {}
        for number, piece in self._ranked[at]:
            if truths[number]:
                found[piece] = True
        return list(found)

    def style(self, won, handed):
        """Return the style that the winning pieces give below a parent with the style `handed`."""
        found = []
        for at, piece in enumerate(won):
            found.append(self.worth(at, piece, handed[at], found))
        return tuple(found)

    def worth(self, at, piece, handed, before):
        """Return the value of a property if a piece wins, or None does.

        `handed` is its value at the parent, `before` has those of the properties before it.
        """
        if piece is not None:
            variable, word = self._values[piece]
            if word == INHERIT:
                return handed
            if variable is not None and before[variable] is not None:
                return before[variable]
            if word is not None:
                return word
        line = self._lines[at]
        return line.default if line.form == "own" else handed


def ranked(sheet):
    """Return for each property the list of its pieces by falling rank.

    A piece stands there once for each selector of its rule, as a tuple of the
    number of the selector and the piece: the greatest weight comes first.
    """
    names = sheet.names
    ranks = [[] for _ in names]
    first = 0
    for at, rule in enumerate(sheet.blocks()):
        for index, (name, _, strong) in enumerate(rule.declarations):
            for number, weight in enumerate(rule.weights, start=first):
                ranks[names.index(name)].append((strong, rule.layer, weight, at, index, number))
        first += len(rule.weights)
    return [[(rank[5], rank[3:5]) for rank in sorted(row, reverse=True)] for row in ranks]


def first_matching(row, truths):
    """Return the first piece of a row whose selector fits, or None."""
    for number, piece in row:
        if truths[number]:
            return piece
    return None


def values_of(sheet):
    """Return a dict from each piece to the tuple of the index of its variable and its word, or None."""
    found = {}
    for at, rule in enumerate(sheet.blocks()):
        for index, declaration in enumerate(rule.declarations):
            value = declaration[1]
            if value.startswith("$"):
                name, _, word = value[1:].partition(" or ")
                found[(at, index)] = (sheet.names.index(name), word or None)
            else:
                found[(at, index)] = (None, value)
    return found

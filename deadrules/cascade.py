"""Which declarations win at a node, and the values that they give [5].

The selectors of a sheet are numbered in the order of its rules. What is told of
a node is the list of truths, one for each selector, whether the node fits it.
"""

from deadrules.rules import INHERIT


class Cascade:
    """The ranks and the values of the declarations of a sheet; it never changes.

    `used` has a truth for each selector: False for those that fit none of the nodes that are asked for.
    """

    def __init__(self, sheet, used):
        self._lines = sheet.lines()
        self._rules = sheet.blocks()
        self._names = sheet.names
        self._ranked = ranked(self._names, self._rules, used)

    def top(self):
        """Return the style that the root has for that of a parent."""
        return tuple([line.default for line in self._lines])

    def winning(self, truths):
        """Return the tuple of the pieces that win the properties, with None for those without one."""
        return tuple([first_matching(row, truths) for row in self._ranked])

    def matching(self, at, truths):
        """Return the list of the pieces of a property that match, by falling rank."""
        found = {}
        for number, piece in self._ranked[at]:
            if truths[number]:
                found[piece] = True
        return list(found)

    def style(self, won, handed):
        """Return the style that the winning pieces give below a parent with the style `handed`."""
        found = []
        for at, piece in enumerate(won):
            found.append(self.worth(at, piece, handed[at], found))
        return tuple(found)

    def worth(self, at, piece, handed, before):
        """Return the value of a property if a piece wins, or None does.

        `handed` is its value at the parent, `before` has those of the properties before it.
        """
        if piece is not None:
            value = self._rules[piece[0]].declarations[piece[1]][1]
            if value == INHERIT:
                return handed
            if not value.startswith("$"):
                return value
            variable, _, word = value[1:].partition(" or ")
            known = before[self._names.index(variable)]
            if known is not None:
                return known
            if word:
                return word
        line = self._lines[at]
        return line.default if line.form == "own" else handed


def kept_of(sheet):
    """Return the tuple of the truths whether the values of the properties at a node can matter to its children."""
    inherited = [name for rule in sheet.blocks() for name, value, _ in rule.declarations if value == INHERIT]
    return tuple([line.form != "own" or line.name in inherited for line in sheet.lines()])


def handed_on(style, kept):
    """Return what a node hands to its children of its style: None for what none of them can take."""
    return tuple([value if matters else None for value, matters in zip(style, kept)])


def ranked(names, rules, used):
    """Return for each property the list of its pieces by falling rank.

    A piece stands there once for each selector of its rule that is used, as a tuple of
    the number of the selector and the piece: the greatest weight comes first.
    """
    ranks = {name: [] for name in names}
    number = 0
    for at, rule in enumerate(rules):
        for weight in rule.weights:
            if used[number]:
                for index, (name, _, strong) in enumerate(rule.declarations):
                    ranks[name].append((strong, rule.layer, weight, at, index, number))
            number += 1
    return [[(rank[5], rank[3:5]) for rank in sorted(row, reverse=True)] for row in ranks.values()]


def first_matching(row, truths):
    """Return the first piece of a row whose selector fits, or None."""
    for number, piece in row:
        if truths[number]:
            return piece
    return None

"""Style sheets [4]."""

from deadrules.checks import is_integer
from deadrules.errors import InvalidPiece, LimitExceeded, ParseError
from deadrules.rules import Rule, read_property, read_rule

MOST_PROPERTIES = 12
MOST_IN_RULES = 24


def parse_sheet(text):
    """Return the sheet with this text."""
    if not isinstance(text, str):
        raise ParseError(None)
    properties = []
    rules = []
    for number, line in enumerate(text.split("\n"), start=1):
        if not line.strip(" "):
            continue
        is_rule = "{" in line
        found = read_rule(line, properties) if is_rule else read_property(line)
        if found is None or not is_rule and (rules or not can_stand(found, properties)):
            raise ParseError(number)
        if is_rule:
            rules.append(found)
        else:
            properties.append(found)
    selectors = sum([len(rule.rows) for rule in rules])
    if selectors > MOST_IN_RULES or sum([len(rule.declarations) for rule in rules]) > MOST_IN_RULES:
        raise LimitExceeded(MOST_IN_RULES)
    return Sheet(properties, rules)


def can_stand(found, properties):
    """Return whether a property can stand behind the others."""
    return len(properties) < MOST_PROPERTIES and found.name not in [one.name for one in properties]


class Sheet:
    """Properties and rules; it never changes."""

    def __init__(self, properties, rules):
        self._properties = tuple(properties)
        self._rules = tuple(rules)
        self._names = tuple([one.name for one in properties])
        self._told = tuple([rule.told for rule in rules])
        self._text = "\n".join([one.written for one in [*properties, *rules]])

    @property
    def text(self):
        """The lines, with one blank between words."""
        return self._text

    @property
    def names(self):
        """The list of the properties in their order."""
        return list(self._names)

    @property
    def rules(self):
        """The list of the rules as tuples (layer, selectors, declarations)."""
        return list(self._told)

    def __eq__(self, other):
        return isinstance(other, Sheet) and self._text == other._text

    def lines(self):
        """Return the list of the properties."""
        return list(self._properties)

    def blocks(self):
        """Return the list of the rules."""
        return list(self._rules)

    def selector_rows(self):
        """Return the list of the rows of compounds of all selectors, in the order of the rules."""
        return [row for rule in self._rules for row in rule.rows]

    def has_lines_of(self, other):
        """Return whether another sheet has the same lines of properties in the same order."""
        return [line.written for line in self._properties] == [line.written for line in other._properties]

    def pieces(self):
        """Return the list of the tuples of the indexes of a rule and of one of its declarations."""
        return [(at, index) for at, rule in enumerate(self._rules) for index in range(len(rule.declarations))]

    def only(self, pieces):
        """Return the sheet with these pieces alone."""
        if not isinstance(pieces, (list, tuple)):
            raise InvalidPiece(pieces)
        kept = []
        for piece in pieces:
            if not self.has_piece(piece) or piece in kept:
                raise InvalidPiece(piece)
            kept.append(piece)
        rules = []
        for at, rule in enumerate(self._rules):
            left = [one for index, one in enumerate(rule.declarations) if (at, index) in kept]
            if left:
                rules.append(Rule(rule.layer, rule.rows, left))
        return Sheet(self._properties, rules)

    def has_piece(self, piece):
        """Return whether a value is a piece of the sheet."""
        if not isinstance(piece, tuple) or len(piece) != 2:
            return False
        return is_integer(piece[0]) and is_integer(piece[1]) and piece in self.pieces()

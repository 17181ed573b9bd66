"""Reading the texts of selectors [3]."""

from deadrules.checks import LETTERS, cut, is_name
from deadrules.compounds import SIGNS, Compound, Row
from deadrules.errors import InvalidText, LimitExceeded

MOST_COMPOUNDS = 12
DIGITS = ("0", "1", "2", "3", "4")
JOINS = (" ", ">", "+", "~")
NO_BLANK_BEFORE = (")", ",", ">", "+", "~")
NO_BLANK_BEHIND = ("(", ",", ">", "+", "~", " ")

# The words of parts with brackets, by where the part stands.
OUTSIDE = ("nth", "not", "has")
IN_RELATIVE = ("nth", "not")
IN_NOT = ("nth",)


def read_row(text):
    """Return the row of the compounds of a selector with this text."""
    if not isinstance(text, str):
        raise InvalidText(text)
    row = Reader(text).whole()
    if row.many() > MOST_COMPOUNDS:
        raise LimitExceeded(MOST_COMPOUNDS)
    return row


def pieces_of(text):
    """Return the list of the names and signs of a text; a blank is left only where it is a join."""
    pieces = cut(text, LETTERS, " .:(),*>+~01234")
    if pieces is None:
        raise InvalidText(text)
    kept = []
    for piece in pieces:
        if piece in NO_BLANK_BEFORE and kept and kept[-1] == " ":
            kept.pop()
        if piece != " " or kept and kept[-1] not in NO_BLANK_BEHIND:
            kept.append(piece)
    if kept and kept[-1] == " ":
        kept.pop()
    return kept


class Reader:
    """Reads the names and signs of a selector from left to right.

    `words` are always the words of the parts with brackets that can stand there.
    """

    def __init__(self, text):
        self._given = text
        self._pieces = pieces_of(text)
        self._at = 0

    def whole(self):
        """Return the row that the whole text is; raise InvalidText if it is none."""
        row = self._row("", OUTSIDE)
        if self._at < len(self._pieces):
            raise InvalidText(self._given)
        return row

    def _row(self, first, words):
        joins = [first]
        compounds = [self._compound(words)]
        while self._next() in JOINS:
            joins.append(self._taken())
            compounds.append(self._compound(words))
        return Row(joins, compounds)

    def _compound(self, words):
        start = self._at
        name = None
        if self._next() == "*":
            self._taken()
        elif is_name(self._next()):
            name = self._taken()
        parts = []
        while self._next() in (".", ":"):
            parts.append(self._part(words))
        if self._at == start:
            raise InvalidText(self._given)
        return Compound(name, parts)

    def _part(self, words):
        sign = self._taken()
        word = self._taken()
        if sign == "." and is_name(word):
            return (sign, word)
        if sign == ":" and word in ("first", "last"):
            return (word, None)
        if sign == ":" and word in words:
            self._expect("(")
            detail = self._detail(word)
            self._expect(")")
            return (word, detail)
        raise InvalidText(self._given)

    def _detail(self, word):
        """Read what stands in the brackets of a part."""
        if word == "nth":
            step = self._digit()
            self._expect(",")
            return (step, self._digit())
        if word == "has":
            join = self._taken() if self._next() in SIGNS else " "
            return self._row(join, IN_RELATIVE)
        if is_name(self._next()):
            return ("kind", self._taken())
        return self._part(IN_NOT)

    def _digit(self):
        digit = self._taken()
        if digit not in DIGITS:
            raise InvalidText(self._given)
        return int(digit)

    def _expect(self, sign):
        if self._taken() != sign:
            raise InvalidText(self._given)

    def _taken(self):
        piece = self._next()
        self._at += 1
        return piece

    def _next(self):
        """Return the next name or sign; at the end it is an empty text."""
        return self._pieces[self._at] if self._at < len(self._pieces) else ""

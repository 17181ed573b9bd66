"""Grammars: which documents there are [2]."""

from deadrules.checks import are_names, is_between, is_name, words_of
from deadrules.documents import Document
from deadrules.errors import InvalidNumber, InvalidPart, LimitExceeded, ParseError
from deadrules.listing import Listing
from deadrules.models import read_model

MOST_KINDS = 8
MOST_FREE = 4
MOST_LISTED_NODES = 12
MOST_LISTED = 20000


def parse_grammar(text):
    """Return the grammar with this text."""
    if not isinstance(text, str):
        raise ParseError(None)
    lines = {}
    for number, row in enumerate(text.split("\n"), start=1):
        if words_of(row):
            line = read_line(row)
            if line is None or line.name in lines:
                raise ParseError(number)
            lines[line.name] = line
    if not lines:
        raise ParseError(1)
    lines = completed(lines)
    if len(lines) > MOST_KINDS:
        raise LimitExceeded(MOST_KINDS)
    return Grammar(text, lines)


def read_line(text):
    """Return the line of a kind, or None if the text is not one."""
    head, colon, behind = text.partition(":")
    # The colon is a word; only brackets and signs of a model need no blank before them.
    if not colon or not head.endswith(" ") or behind[:1].isalpha():
        return None
    words = words_of(head)
    model = read_model(behind)
    if not words or not is_name(words[0]) or model is None:
        return None
    needed = [word for word in words[1:] if not word.endswith("?")]
    free = [word[:-1] for word in words[1:] if word.endswith("?")]
    if not are_names(needed + free) or len(free) > MOST_FREE:
        return None
    return Line(words[0], needed, free, model)


def completed(lines):
    """Return a dict with the lines of all kinds in the order in which they first stand."""
    found = {}
    for line in lines.values():
        for name in [line.name, *line.model.distinct()]:
            if name not in lines and name not in found:
                found[name] = Line(name, [], [], read_model(""))
            elif name not in found:
                found[name] = lines[name]
    return found


class Line:
    """What a grammar tells of a kind: its name, marks, and model; it never changes."""

    def __init__(self, name, needed, free, model):
        self.name = name
        self.needed = tuple(needed)
        self.free = tuple(free)
        self.model = model

    def choices(self):
        """Return the list of the sorted tuples of marks that a node of the kind can have."""
        found = [self.needed]
        for mark in self.free:
            found = found + [(*marks, mark) for marks in found]
        return [tuple(sorted(marks)) for marks in found]

    def has(self, marks, names):
        """Return whether a node of the kind can have these marks and row of children."""
        for mark in self.needed:
            if mark not in marks:
                return False
        for mark in marks:
            if mark not in self.needed and mark not in self.free:
                return False
        return self.model.allows(names)


class Grammar:
    """A root and the lines of all kinds; it never changes."""

    def __init__(self, text, lines):
        self._text = text
        self._lines = {name: lines[name] for name in lines}
        self._kinds = tuple(lines)
        self._sizes = self._least_sizes()

    @property
    def text(self):
        """The text that was read."""
        return self._text

    @property
    def root(self):
        """The kind of the root of all documents."""
        return self._kinds[0]

    @property
    def kinds(self):
        """The list of all kinds in the order in which they first stand in the text."""
        return list(self._kinds)

    def lines(self):
        """Return a dict with the line of each kind, in the order of the kinds."""
        return {name: self._lines[name] for name in self._lines}

    def fits(self, kind, kinds):
        """Return whether a list or tuple of names is a row of children of a kind."""
        return self._line(kind).model.allows(kinds)

    def first_wrong(self, document):
        """Return the path of the first node that the grammar does not allow, or None."""
        if document.kind(()) != self.root:
            return ()
        for path in document:
            kind = document.kind(path)
            below = [document.kind((*path, index)) for index in range(document.width(path))]
            if kind not in self._lines or not self._lines[kind].has(document.marks(path), below):
                return path
        return None

    def least(self, kind):
        """Return the least number of nodes of a part of a kind, or None if there is no part."""
        line = self._line(kind)
        return self._sizes.get(line.name)

    def documents(self, most):
        """Return the list of all documents of up to so many nodes, by size and text."""
        if not is_between(most, 0, MOST_LISTED_NODES):
            raise InvalidNumber(most)
        listing = Listing(self._lines)
        sizes = range(1, most + 1)
        if sum([listing.many(self.root, size) for size in sizes]) > MOST_LISTED:
            raise LimitExceeded(MOST_LISTED)
        found = [Document(rows) for size in sizes for rows in listing.all_parts(self.root, size)]
        return sorted(found, key=lambda document: (document.size, document.text))

    def _line(self, kind):
        if not isinstance(kind, str) or kind not in self._lines:
            raise InvalidPart(kind)
        return self._lines[kind]

    def _least_sizes(self):
        """Return a dict with the least size for each kind that has a part of finite size."""
        sizes = {}
        changed = True
        while changed:
            changed = False
            # Mostly a kind stands before those below it: so the last ones come first.
            for kind in reversed(self._kinds):
                cost = self._lines[kind].model.cost(sizes)
                if cost is not None and sizes.get(kind) != cost + 1:
                    sizes[kind] = cost + 1
                    changed = True
        return sizes

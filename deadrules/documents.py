"""Documents: ordered trees of nodes that have a kind and marks [1].

A document keeps its nodes as one row in the order of their paths, each node as
a tuple (depth, kind, marks). A node and all below it are a slice of this row,
so nothing here needs recursion, however deep a text is.
"""

from deadrules.checks import LETTERS, are_names, cut, is_between, is_integer, is_name
from deadrules.errors import InvalidNumber, InvalidPart, InvalidPath, InvalidText, LimitExceeded

MOST_NODES = 200


def parse_document(text):
    """Return the document with this text."""
    rows = None
    if isinstance(text, str):
        rows = read_rows(text)
    if rows is None:
        raise InvalidText(text)
    if len(rows) > MOST_NODES:
        raise LimitExceeded(MOST_NODES)
    return Document(rows)


def read_rows(text):
    """Return the row of the nodes of a text, or None if it is not a text of a document."""
    pieces = cut(text, LETTERS + ".", "(),")
    if pieces is None:
        return None
    rows = []
    depth = 0
    # The beginning asks for a node, as a comma does.
    before = ","
    for piece in pieces:
        if before in ("(", ","):
            head = read_head(piece)
            if head is None:
                return None
            rows.append((depth, *head))
        elif piece == "(" and before != ")":
            depth += 1
        elif piece == ")" and depth > 0:
            depth -= 1
        elif piece != "," or depth == 0:
            return None
        before = piece
    if depth > 0 or before in ("(", ","):
        return None
    return rows


def read_head(text):
    """Return the tuple of the kind and the sorted marks of a node, or None."""
    names = text.split(".")
    marks = names[1:]
    if not is_name(names[0]) or not are_names(marks):
        return None
    return names[0], tuple(sorted(marks))


def text_of(rows):
    """Return the text of a row of nodes."""
    pieces = []
    before = -1
    for depth, kind, marks in rows:
        if depth > before > -1:
            pieces.append("(")
        elif depth <= before:
            pieces.append(")" * (before - depth) + ",")
        pieces.append(".".join([kind, *marks]))
        before = depth
    pieces.append(")" * before)
    return "".join(pieces)


def paths_of(rows):
    """Return the list of the paths of a row of nodes."""
    paths = []
    path = ()
    for row in rows:
        depth = row[0]
        if depth > len(path):
            path = (*path, 0)
        elif depth > 0:
            path = (*path[:depth - 1], path[depth - 1] + 1)
        paths.append(path)
    return paths


def moved(rows, by):
    """Return a row of nodes as it stands deeper by a number, or higher by a negative one."""
    return tuple([(depth + by, kind, marks) for depth, kind, marks in rows])


def is_path(value):
    """Return whether a value has the form of a path."""
    return isinstance(value, tuple) and all([is_integer(index) for index in value])


class Document:
    """An ordered tree of at most 200 nodes; it never changes."""

    def __init__(self, rows):
        self._rows = tuple(rows)
        self._paths = tuple(paths_of(self._rows))
        self._places = {path: at for at, path in enumerate(self._paths)}
        self._text = text_of(self._rows)

    @property
    def text(self):
        """The text of the document, with sorted marks."""
        return self._text

    @property
    def size(self):
        """The number of the nodes."""
        return len(self._rows)

    def __iter__(self):
        return iter(self._paths)

    def __contains__(self, path):
        # A tuple with True in it would be found like one with 1, so the form is asked first.
        return is_path(path) and path in self._places

    def __eq__(self, other):
        return isinstance(other, Document) and self._text == other._text

    def heads(self):
        """Return the list of the tuples (depth, kind, marks) of all nodes in order."""
        return list(self._rows)

    def node_at(self, at):
        """Return the tuple (kind, marks, number, last) of the node with this index."""
        _, kind, marks = self._rows[at]
        path = self._paths[at]
        if at == 0:
            return (kind, marks, 1, True)
        behind = (*path[:-1], path[-1] + 1)
        return (kind, marks, path[-1] + 1, behind not in self._places)

    def kind(self, path):
        """Return the kind of a node."""
        return self._rows[self.number_of(path)][1]

    def marks(self, path):
        """Return the sorted tuple of the marks of a node."""
        return self._rows[self.number_of(path)][2]

    def width(self, path):
        """Return the number of the children of a node."""
        return len(self._children(self.number_of(path)))

    def part(self, path):
        """Return the document of a node and all below it."""
        at = self.number_of(path)
        return Document(moved(self._rows[at:self._end(at)], -self._rows[at][0]))

    def inserted(self, path, index, part):
        """Return the document with a part as the child with this index of a node."""
        at = self.number_of(path)
        children = self._children(at)
        if not is_between(index, 0, len(children)):
            raise InvalidNumber(index)
        if not isinstance(part, Document):
            raise InvalidPart(part)
        if self.size + part.size > MOST_NODES:
            raise LimitExceeded(MOST_NODES)
        spots = [*children, self._end(at)]
        spot = spots[index]
        rows = moved(part._rows, self._rows[at][0] + 1)
        return Document(self._rows[:spot] + rows + self._rows[spot:])

    def removed(self, path):
        """Return the document without a node and all below it."""
        at = self.number_of(path)
        if at == 0:
            raise InvalidPath(path)
        return Document(self._rows[:at] + self._rows[self._end(at):])

    def renamed(self, path, kind):
        """Return the document with another kind of a node."""
        at = self.number_of(path)
        if not is_name(kind):
            raise InvalidPart(kind)
        depth, _, marks = self._rows[at]
        return self._replaced(at, (depth, kind, marks))

    def marked(self, path, marks):
        """Return the document with other marks of a node."""
        at = self.number_of(path)
        if not are_names(marks):
            raise InvalidPart(marks)
        depth, kind, _ = self._rows[at]
        return self._replaced(at, (depth, kind, tuple(sorted(marks))))

    def _replaced(self, at, row):
        return Document((*self._rows[:at], row, *self._rows[at + 1:]))

    def number_of(self, path):
        """Return the index of a node in the order of the paths."""
        if path not in self:
            raise InvalidPath(path)
        return self._places[path]

    def _end(self, at):
        """Return the place behind a node and all below it."""
        end = at + 1
        while end < len(self._rows) and self._rows[end][0] > self._rows[at][0]:
            end += 1
        return end

    def _children(self, at):
        """Return the places of the children of a node."""
        depth = self._rows[at][0] + 1
        return [place for place in range(at + 1, self._end(at)) if self._rows[place][0] == depth]

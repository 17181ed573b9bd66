"""Selectors, selections of several ones, and what they find in a document [3]."""

from deadrules.compounds import weight_of
from deadrules.documents import is_path
from deadrules.reading import read_row
from deadrules.trees import Tree, truths_at


def parse_selector(text):
    """Return the selector with this text."""
    return Selector(read_row(text))


def found_by(rows, document):
    """Return the list of the paths of the nodes that fit one of the rows of compounds."""
    tree = Tree(document)
    nodes = 0
    for row in rows:
        nodes = nodes | tree.selected(row, tree.everything)[-1]
    return [path for path, node in zip(document, tree.bits) if nodes & node]


class Selector:
    """A row of compounds with joins between them; it never changes."""

    def __init__(self, row):
        self._rows = (row,)
        self._text = row.written
        self._weight = weight_of(row)

    @property
    def text(self):
        """The text of the selector, with blanks only where they have a meaning."""
        return self._text

    @property
    def weight(self):
        """The tuple of the numbers of the parts and of the kinds."""
        return self._weight

    def __eq__(self, other):
        return isinstance(other, Selector) and self._text == other._text

    def __or__(self, other):
        return Selection(self._rows + other._rows)

    def found(self, document):
        """Return the list of the paths of the nodes that fit."""
        return found_by(self._rows, document)

    def fits(self, document, path):
        """Return whether a node fits."""
        return truths_at(document, document.number_of(path), self._rows)[0]

    def on(self, document):
        """Return what the selector finds in a document."""
        return Found(self.found(document))


class Selection:
    """Several selectors, each text once; it never changes."""

    def __init__(self, rows):
        distinct = {}
        for row in rows:
            distinct[row.written] = row
        self._rows = tuple(distinct.values())

    def __or__(self, other):
        return Selection(self._rows + other._rows)

    def texts(self):
        """Return the list of the texts of the selectors."""
        return [row.written for row in self._rows]

    def found(self, document):
        """Return the list of the paths of the nodes that fit one of the selectors."""
        return found_by(self._rows, document)

    def on(self, document):
        """Return what the selectors find in a document."""
        return Found(self.found(document))


class Found:
    """The paths of the nodes that fit; it never changes."""

    def __init__(self, paths):
        self._paths = tuple(paths)

    def __iter__(self):
        return iter(self._paths)

    def __contains__(self, path):
        # A tuple with True in it is equal to one with 1, so the form is asked first.
        return is_path(path) and path in self._paths

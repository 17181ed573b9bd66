"""Counting and listing the parts of a given size that a grammar allows [2].

Rows of children are read place by place with the models, which tell for each
row one way of reading it: so each part is counted and listed once. Only parts
that stand in a part that was asked for are listed, so no list is longer than
the last one.
"""

from deadrules.documents import moved
from deadrules.models import START


class Listing:
    """Counts and lists the parts of kinds, as rows of nodes, by their numbers of nodes.

    The lines are a dict from each kind to its line of the grammar.
    """

    def __init__(self, lines):
        self._lines = lines
        self._part_counts = {}
        self._row_counts = {}
        self._parts = {}
        self._rows = {}

    def many(self, kind, size):
        """Return the number of the parts of a kind that have so many nodes."""
        key = (kind, size)
        if key not in self._part_counts:
            rows = self._count_rows(kind, START, size - 1)
            self._part_counts[key] = rows * len(self._lines[kind].choices())
        return self._part_counts[key]

    def all_parts(self, kind, size):
        """Return the list of the parts of a kind that have so many nodes."""
        key = (kind, size)
        if key not in self._parts:
            rows = self._list_rows(kind, START, size - 1)
            heads = [((0, kind, marks),) for marks in self._lines[kind].choices()]
            self._parts[key] = [head + row for head in heads for row in rows]
        return self._parts[key]

    def _count_rows(self, kind, places, size):
        key = (kind, places, size)
        if key not in self._row_counts:
            self._row_counts[key] = self._row_count(kind, places, size)
        return self._row_counts[key]

    def _row_count(self, kind, places, size):
        model = self._lines[kind].model
        if size == 0:
            return 1 if model.can_end(places) else 0
        total = 0
        for name in model.distinct():
            behind = model.step(places, name)
            if behind > 0:
                for width in range(1, size + 1):
                    total += self.many(name, width) * self._count_rows(kind, behind, size - width)
        return total

    def _list_rows(self, kind, places, size):
        key = (kind, places, size)
        if key not in self._rows:
            self._rows[key] = self._row_list(kind, places, size)
        return self._rows[key]

    def _row_list(self, kind, places, size):
        model = self._lines[kind].model
        if size == 0:
            return [()] if model.can_end(places) else []
        found = []
        for name in model.distinct():
            behind = model.step(places, name)
            for width in range(1, size + 1):
                if behind > 0 and self.many(name, width) * self._count_rows(kind, behind, size - width) > 0:
                    rows = self._list_rows(kind, behind, size - width)
                    for part in self.all_parts(name, width):
                        below = moved(part, 1)
                        found.extend([below + row for row in rows])
        return found

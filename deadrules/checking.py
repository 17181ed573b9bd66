"""Whether papers hold [7].

The values and states of a paper are read as parts and nodes. Then all rows are
made that its values allow, and all nodes below its states; nothing may come
out that it does not tell, or with a smaller number than it tells.
"""

from deadrules.checks import is_between, is_integer
from deadrules.nodes import Nodes
from deadrules.rows import Part, Rows
from deadrules.rules import is_word


class Checker:
    """Checks papers of a grammar; `notes` are those of the sheet."""

    def __init__(self, grammar, notes):
        self._root = grammar.root
        self._lines = grammar.lines()
        self._notes = notes
        # The parts of the values by tuples (kind, marks, low), and the numbers of the nodes of the states.
        self._parts = {}
        self._numbers = {}

    def check(self, value):
        """Return the list of the nodes that a paper tells, or None if the value is not a paper that holds."""
        if not isinstance(value, tuple) or len(value) != 2 or not are_numbered(value[0]) or not are_numbered(value[1]):
            return None
        if not self._read_values(value[0]):
            return None
        rows = Rows(self._lines, {key[0]: True for key in self._parts}, self._notes)
        if not self._has_rows(rows):
            return None
        nodes = Nodes(rows, self._notes)
        if not self._read_states(nodes, value[1]) or not self._has_roots(nodes) or not self._has_nodes(nodes):
            return None
        return list(self._numbers)

    def _read_values(self, rows):
        """Read the values of a paper; return whether all have the form of one, and none stands twice."""
        for value, number in rows:
            key = self._read_value(value)
            if key is None or key in self._parts:
                return False
            self._parts[key] = Part((key[0], key[1]), key[2], number, None)
        return True

    def _read_value(self, value):
        """Return the key of a value, or None if it has not the form of one."""
        if not isinstance(value, tuple) or len(value) != 4:
            return None
        kind, marks, inner, deep = value
        if not isinstance(kind, str) or kind not in self._lines or marks not in self._lines[kind].choices():
            return None
        low = read_items(self._notes.relatives, (inner, deep), (">", " "))
        if low is None:
            return None
        return (kind, marks, low)

    def _has_rows(self, rows):
        """Return whether the values of all rows of children of the values are among them."""
        for part in sorted(list(self._parts.values()), key=lambda one: one.total):
            rows.put_part(part)
        rest = rows.next_rest()
        while rest is not None:
            if rest.is_whole():
                for marks in self._lines[rest.owner].choices():
                    part = self._parts.get((rest.owner, marks, rest.low))
                    if part is None or part.total > rest.total + 1:
                        return False
            rest = rows.next_rest()
        return True

    def _read_states(self, nodes, rows):
        """Read the states of a paper; return whether all have the form of one, and none stands twice."""
        for value, number in rows:
            node = self._read_state(nodes, value)
            if node is None or node in self._numbers:
                return False
            self._numbers[node] = number
        return True

    def _read_state(self, nodes, value):
        """Return the node with a state, or None if it has not the form of one with a value of the paper."""
        if not isinstance(value, tuple) or len(value) != 10:
            return None
        key = self._read_value(value[0])
        if key is None or key not in self._parts:
            return None
        place, last = value[1:3]
        right = read_items(self._notes.relatives, value[3:5], ("+", "~"))
        left = read_items(self._notes.selectors, value[5:9], (" ", ">", "+", "~"))
        handed = value[9]
        if not is_between(place, 1, self._notes.places.most) or not isinstance(last, bool):
            return None
        if right is None or left is None or not self._is_handed(handed):
            return None
        return nodes.node(self._parts[key], place, last, right, left, (handed,))

    def _is_handed(self, value):
        """Return whether a value is a tuple of a word or None for each property."""
        if not isinstance(value, tuple) or len(value) != len(self._notes.top()[0]):
            return False
        return all([one is None or isinstance(one, str) and is_word(one) for one in value])

    def _has_roots(self, nodes):
        """Return whether the roots with all values of their kind are told."""
        for key in self._parts:
            if key[0] == self._root and self._numbers.get(nodes.root_with(self._parts[key])) != 0:
                return False
        return True

    def _has_nodes(self, nodes):
        """Return whether all children of the nodes are among them."""
        for node in self._numbers:
            nodes.put_node(node, self._numbers[node])
        node = nodes.next_node()
        while node is not None:
            if node not in self._numbers or self._numbers[node] > node.total:
                return False
            node = nodes.next_node()
        return True


def are_numbered(value):
    """Return whether a value is a list of tuples of something and an integer from 0 on."""
    if not isinstance(value, list) or not all([isinstance(row, tuple) and len(row) == 2 for row in value]):
        return False
    return all([is_integer(row[1]) and row[1] >= 0 for row in value])


def read_items(items, rows, joins):
    """Return the set of all items of rows that the joins note, or None if one has not the form of such a row."""
    found = 0
    for row, join in zip(rows, joins):
        read = items.set_of(row, join)
        if read is None:
            return None
        found = found | read
    return found

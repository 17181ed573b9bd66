"""The nodes of documents, as far as sheets can tell them apart [7].

From a node on the rows of its children are walked through from the first child
on. What follows a child is known from the rests in rows.py, what is before it is
noted on the way. Nodes and gaps are left in the order of their totals, so the
first way to a node is a least one.
"""

from heapq import heappop, heappush


class Node:
    """All nodes of documents that have the same state.

    `body` is the part with its value; `right`, `left` and `given` are what is
    noted for it and what its parent hands to it. `total` is the number of the
    state: the least number of nodes outside. On a least way `gap` is that before
    the node, None for a root, and `rest` what is behind it in its row.
    `fitted` are the items of selectors that it fits, `looks` its styles in all
    sheets. `number` is its index in the order of making.
    """

    def __init__(self, body, place, last, right, left, given):
        self.body = body
        self.place = place
        self.last = last
        self.right = right
        self.left = left
        self.given = given
        self.number = 0
        self.total = None
        self.gap = None
        self.rest = None
        self.done = False
        self.fitted = 0
        self.looks = ()

    def view(self):
        """Return the view of the nodes, as in views.py."""
        return (self.body.head, self.body.low, self.place, self.last, self.right, self.left, self.given)


class Gap:
    """The gaps before a rest of the children of nodes that note and hand down the same.

    `left` is what the parent notes, `beside` what the siblings before note, and
    `given` what the parent hands down. `total` is the number of the parent, and
    1, and the sum of those of the siblings before. On a least way `source` is the
    gap before, if there is one, and `passed` the part between; `parent` is the
    node whose children these are. `number` is its index in the order of making.
    """

    def __init__(self, number, rest, left, beside, given):
        self.number = number
        self.rest = rest
        self.left = left
        self.beside = beside
        self.given = given
        self.total = None
        self.parent = None
        self.source = None
        self.passed = None
        self.done = False


class Nodes:
    """All nodes that can be children of the nodes that were put in.

    A node is put in before those with a greater total are asked for. The rows are
    all rows that can be made; no part is put in there any more.
    """

    def __init__(self, rows, notes):
        self._rows = rows
        self._notes = notes
        self._found = {}
        self._gaps = {}
        self._made = []
        self._queue = []

    def many(self):
        """Return how many different nodes there are so far."""
        return len(self._found)

    def put_root(self, body):
        """Put in a root with this value."""
        self._lower(self.root_with(body), 0, None, None)

    def put_node(self, node, total):
        """Put in a node with this number: its children can be nodes."""
        notes = self._notes
        left = notes.downwards(node.fitted, node.left)
        given = notes.handed(node.looks)
        for rest in self._rows.wholes(node.body.head[0], node.body.low):
            if rest.place > 0:
                self._reach((rest, left, 0, given), total + 1, node, None, None)

    def next_node(self):
        """Return the next node by its total, or None if there is none below the nodes that were put in."""
        while self._queue:
            found = self._made[heappop(self._queue)[1]]
            if not found.done:
                found.done = True
                if isinstance(found, Node):
                    return found
                self._walk(found)
        return None

    def node(self, body, place, last, right, left, given):
        """Return the node with this state."""
        key = (body, place, last, right, left, given)
        found = self._found.get(key)
        if found is None:
            found = Node(body, place, last, right, left, given)
            found.fitted = self._notes.selected(body.head, place, last, body.low, right, left)
            found.looks = self._notes.styles(found.fitted, given)
            found.number = len(self._made)
            self._made.append(found)
            self._found[key] = found
        return found

    def root_with(self, body):
        """Return the node of a root with this value."""
        return self.node(body, 1, True, 0, 0, self._notes.top())

    def _walk(self, gap):
        """Go to all children that can stand behind a gap, and to the gaps behind them."""
        left = gap.left | gap.beside
        for sort, behind in gap.rest.ways:
            last = behind.place == 0
            for part in sort.parts:
                node = self.node(part, gap.rest.place, last, behind.right, left, gap.given)
                self._lower(node, gap.total + behind.total, gap, behind)
                if not last:
                    beside = self._notes.forwards(node.fitted, left)
                    key = (behind, gap.left, beside, gap.given)
                    self._reach(key, gap.total + part.total, gap.parent, gap, part)

    def _reach(self, key, total, parent, source, passed):
        gap = self._gaps.get(key)
        if gap is None:
            gap = Gap(len(self._made), *key)
            self._made.append(gap)
            self._gaps[key] = gap
        if gap.total is None or total < gap.total:
            gap.total = total
            gap.parent = parent
            gap.source = source
            gap.passed = passed
            heappush(self._queue, (total, gap.number))

    def _lower(self, node, total, gap, behind):
        if node.total is None or total < node.total:
            node.total = total
            node.gap = gap
            node.rest = behind
            heappush(self._queue, (total, node.number))

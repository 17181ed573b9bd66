"""Which nodes of a document fit compounds, relatives and selectors [3].

A set of nodes is an integer: the bit of a node tells whether it is in the set.
The bits rise from level to level, and in a level in the order of the paths, so
siblings stand side by side, and what is asked of many nodes at once is asked of
a few integers.
"""


def truths_at(document, at, rows):
    """Return the list of the truths whether the node of a document with this index fits selectors."""
    node = document.node_at(at)
    truths = [row.compounds[-1].takes(node) for row in rows]
    # Most selectors fail at the node itself or ask for nothing else, so often no tree has to be made.
    left = [number for number, row in enumerate(rows) if truths[number] and not row.is_plain]
    if left:
        tree = Tree(document)
        for number in left:
            truths[number] = tree.fits(rows[number], tree.bits[at])
    return truths


class Tree:
    """The nodes of a document, and how they are related; what it tells does not change.

    `bits` is the list of the bits of the nodes in the order of their paths, and `everything` the set of
    all nodes. `families` is the list of the tuples of a node and the set of its children, from the root
    down; the first one is that of no node, 0, and the root.
    """

    def __init__(self, document):
        heads = document.heads()
        bits = [0 for _ in heads]
        kinds = {}
        marked = {}
        starts = [(0, 1)]
        node = 1
        for at in sorted(range(len(heads)), key=lambda place: heads[place][0]):
            depth, kind, marks = heads[at]
            bits[at] = node
            kinds[kind] = kinds.get(kind, 0) | node
            for mark in marks:
                marked[mark] = marked.get(mark, 0) | node
            # The first child of a node stands directly behind it in the order of the paths.
            if depth > 0 and heads[at - 1][0] < depth:
                starts.append((bits[at - 1], node))
            node = node << 1
        ends = [first for _, first in starts[1:]] + [node]
        self.bits = bits
        self.everything = node - 1
        self.families = [(parent, end - first) for (parent, first), end in zip(starts, ends)]
        # Only where there are at least two children one can stand before another one.
        self._siblings = [children for _, children in self.families if children & children - 1 > 0]
        self._firsts = sum([first for _, first in starts])
        self._lasts = sum(ends) >> 1
        self._kinds = kinds
        self._marked = marked
        self._related = {}

    def parents(self):
        """Return a dict from all nodes to their parents; that of the root is 0."""
        found = {}
        node = 1
        for parent, children in self.families:
            while node & children > 0:
                found[node] = parent
                node = node << 1
        return found

    def fits(self, row, node):
        """Return whether a node fits a selector."""
        found = node
        for join, compound in row.steps_back:
            found = self._fitting(compound, found)
            if found == 0:
                return False
            # The first compound has no join before it.
            if join:
                found = self.before(found, join)
        return True

    def selected(self, row, wanted):
        """Return the list of the sets of the nodes that fit a selector up to each compound.

        Of those that fit all of it only the wanted ones are told.
        """
        found = []
        among = self.everything
        last = len(row.compounds) - 1
        for index, compound in enumerate(row.compounds):
            if index > 0:
                among = self.behind(found[-1], row.joins[index])
            if index == last:
                among = among & wanted
            found.append(self._fitting(compound, among))
        return found

    def related(self, row):
        """Return the list of the sets of the nodes that fit a relative from each compound on."""
        found = self._related.get(row.written)
        if found is None:
            found = []
            among = self.everything
            for join, compound in row.steps_back:
                found.insert(0, self._fitting(compound, among))
                among = self.before(found[0], join)
            self._related[row.written] = found
        return found

    def behind(self, nodes, join):
        """Return the set of the nodes that have one of these nodes before a join."""
        if nodes == 0:
            return 0
        if join == "+":
            return (nodes & self.everything - self._lasts) << 1
        if join == "~":
            return sum([later(nodes & children, children) for children in self._siblings if nodes & children])
        if join == ">":
            return sum([children for parent, children in self.families if nodes & parent])
        found = 0
        for parent, children in self.families:
            if (nodes | found) & parent:
                found = found | children
        return found

    def before(self, nodes, join):
        """Return the set of the nodes that have one of these nodes behind a join."""
        if nodes == 0:
            return 0
        if join == "+":
            return (nodes & self.everything - self._firsts) >> 1
        if join == "~":
            return sum([earlier(nodes & children, children) for children in self._siblings if nodes & children])
        if join == ">":
            return sum([parent for parent, children in self.families if nodes & children])
        found = 0
        for parent, children in reversed(self.families):
            if (nodes | found) & children:
                found = found | parent
        return found

    def _fitting(self, compound, among):
        """Return those of the nodes that fit a compound."""
        if among == 0:
            return 0
        found = among
        if compound.name is not None:
            found = found & self._kinds.get(compound.name, 0)
        for part in compound.plain:
            found = found & self._part(part)
        for row in compound.relatives:
            if found > 0:
                found = found & self.before(self.related(row)[0], row.joins[0])
        return found

    def _part(self, part):
        """Return the set of the nodes that fit a plain part."""
        word, detail = part
        if word == ".":
            return self._marked.get(detail, 0)
        if word == "first":
            return self._firsts
        if word == "last":
            return self._lasts
        if word == "kind":
            return self._kinds.get(detail, 0)
        if word == "not":
            return self.everything - self._part(detail)
        return self._in_turn(detail[0], detail[1])

    def _in_turn(self, step, start):
        """Return the set of the nodes whose numbers are step * n + start for an integer n from 0 on."""
        if step == 0:
            turn = 1 << start >> 1
        else:
            first = start if start > 0 else step
            turn = sum([1 << number - 1 for number in range(first, len(self.bits) + 1, step)])
        # The bits of the numbers are moved to where the siblings stand.
        found = self._firsts if turn & 1 > 0 else 0
        for children in self._siblings:
            found = found | turn * (children & -children) & children
        return found


def later(nodes, siblings):
    """Return the set of the siblings that stand behind one of these nodes, which are siblings, too."""
    lowest = nodes & -nodes
    return siblings & -(lowest << 1)


def earlier(nodes, siblings):
    """Return the set of the siblings that stand before one of these nodes, which are siblings, too."""
    highest = 1 << nodes.bit_length() - 1
    return siblings & highest - 1

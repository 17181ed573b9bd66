"""Which nodes of a document fit compounds, relatives and selectors [3].

The nodes are counted in the order of their paths; -1 stands for no node. A list
of truths tells for each node whether it fits something, and has one item more,
which is False, for the node that is none.
"""

UPWARDS = (" ", ">")
ALL_THE_WAY = (" ", "~")


class Tree:
    """The nodes of a document, and how they are related; it never changes.

    `parents` and `befores` are the lists of the parents and of the siblings directly before.
    """

    def __init__(self, document):
        heads = document.heads()
        self.parents = []
        self.befores = []
        numbers = []
        # The last nodes of each depth on the way to the node.
        latest = []
        for at, head in enumerate(heads):
            depth = head[0]
            before = latest[depth] if depth < len(latest) else -1
            latest = latest[:depth] + [at]
            self.parents.append(latest[depth - 1] if depth > 0 else -1)
            self.befores.append(before)
            numbers.append(1 if before < 0 else numbers[before] + 1)
        lasts = [True for _ in heads]
        for before in self.befores:
            if before >= 0:
                lasts[before] = False
        self.nodes = [(head[1], head[2], number, last) for head, number, last in zip(heads, numbers, lasts)]

    def selected(self, row):
        """Return the lists of truths of a selector: whether a node fits it up to each compound."""
        found = []
        for join, compound in zip(row.joins, row.compounds):
            truths = self._fitting(compound)
            if found:
                truths = both(truths, self.behind(found[-1], join))
            found.append(truths)
        return found

    def related(self, row):
        """Return the lists of truths of a relative: whether a node fits it from each compound on."""
        found = []
        join = ""
        for at in range(len(row.joins) - 1, -1, -1):
            truths = self._fitting(row.compounds[at])
            if found:
                truths = both(truths, self.before(found[-1], join))
            found.append(truths)
            join = row.joins[at]
        return found[::-1]

    def behind(self, truths, join):
        """Return the truths of having a node that fits before a join."""
        links = self.parents if join in UPWARDS else self.befores
        found = [truths[link] for link in links] + [False]
        if join in ALL_THE_WAY:
            for at, link in enumerate(links):
                found[at] = found[at] or found[link]
        return found

    def before(self, truths, join):
        """Return the truths of having a node that fits behind a join."""
        links = self.parents if join in UPWARDS else self.befores
        found = [False for _ in truths]
        for at in range(len(links) - 1, -1, -1):
            if truths[at] or join in ALL_THE_WAY and found[at]:
                found[links[at]] = True
        found[-1] = False
        return found

    def _fitting(self, compound):
        """Return the truths of a compound."""
        truths = [compound.takes(node) for node in self.nodes] + [False]
        for row in compound.relatives:
            truths = both(truths, self.before(self.related(row)[0], row.joins[0]))
        return truths


def both(truths, others):
    """Return the truths of fitting two things."""
    return [one and other for one, other in zip(truths, others)]

"""Which nodes of a document are those of the document before [11]."""


def same_nodes(before, now):
    """Return a dict from the paths of the nodes that are not new to the paths that they had before."""
    found = {(): ()}
    left = [((), ())]
    while left:
        path, old = left.pop()
        kinds = [now.kind((*path, index)) for index in range(now.width(path))]
        others = [before.kind((*old, index)) for index in range(before.width(old))]
        for index, other in same_children(kinds, others):
            child = (*path, index)
            found[child] = (*old, other)
            left.append((child, found[child]))
    return found


def same_children(kinds, others):
    """Return the list of the tuples of the indexes of two rows of kinds that belong together."""
    most = min(len(kinds), len(others))
    first = 0
    while first < most and kinds[first] == others[first]:
        first += 1
    last = 0
    while last < most - first and kinds[-1 - last] == others[-1 - last]:
        last += 1
    pairs = [(index, index) for index in range(first)]
    return pairs + [(len(kinds) - 1 - index, len(others) - 1 - index) for index in range(last)]

"""The styles of the nodes of a document [5]."""

from deadrules.cascade import Cascade
from deadrules.errors import InvalidPath
from deadrules.trees import Tree


def styles(document, sheet):
    """Return the list of the tuples of the path and the style of all nodes."""
    cascade = Cascade(sheet)
    tree = Tree(document)
    truths = truths_of(tree, sheet)
    found = []
    for at, parent in enumerate(tree.parents):
        handed = found[parent] if parent >= 0 else cascade.top()
        found.append(cascade.style(cascade.winning(truths[at]), handed))
    return list(zip(document, found))


def winners(document, sheet, path):
    """Return the tuple of the pieces that win the properties at a node, with None for those without one."""
    return Cascade(sheet).winning(truths_at(document, sheet, path))


def matching(document, sheet, path):
    """Return the list of the indexes of the rules that match a node."""
    truths = truths_at(document, sheet, path)
    found = []
    first = 0
    for at, rule in enumerate(sheet.blocks()):
        behind = first + len(rule.rows)
        if True in truths[first:behind]:
            found.append(at)
        first = behind
    return found


def truths_of(tree, sheet):
    """Return for each node the list of the truths whether it fits the selectors of a sheet."""
    rows = [row for rule in sheet.blocks() for row in rule.rows]
    fits = [tree.selected(row)[-1] for row in rows]
    return [[truths[at] for truths in fits] for at, _ in enumerate(tree.parents)]


def truths_at(document, sheet, path):
    """Return the list of the truths whether a node fits the selectors of a sheet."""
    if path not in document:
        raise InvalidPath(path)
    return truths_of(Tree(document), sheet)[list(document).index(path)]

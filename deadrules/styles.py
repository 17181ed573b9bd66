"""The styles of the nodes of a document [5]."""

from deadrules.cascade import Cascade
from deadrules.trees import Tree, truths_at


def styles(document, sheet):
    """Return the list of the tuples of the path and the style of all nodes."""
    return list(styles_by_path(document, sheet).items())


def winners(document, sheet, path):
    """Return the tuple of the pieces that win the properties at a node, with None for those without one."""
    truths = truths_at(document, document.number_of(path), sheet.selector_rows())
    return Cascade(sheet, truths).winning(truths)


def matching(document, sheet, path):
    """Return the list of the indexes of the rules that match a node."""
    return matching_rules(sheet, truths_at(document, document.number_of(path), sheet.selector_rows()))


def matching_rules(sheet, truths):
    """Return the list of the indexes of the rules that match a node that fits these selectors."""
    found = []
    first = 0
    for at, rule in enumerate(sheet.blocks()):
        behind = first + len(rule.rows)
        if True in truths[first:behind]:
            found.append(at)
        first = behind
    return found


def matching_by_path(document, sheet):
    """Return a dict with the lists of the indexes of the rules that match the nodes."""
    tree = Tree(document)
    sets = sets_of(tree, sheet)
    return {path: matching_rules(sheet, truths_of(sets, node)) for path, node in zip(document, tree.bits)}


def styles_by_path(document, sheet):
    """Return a dict with the styles of all nodes."""
    tree = Tree(document)
    looks = looks_of(tree, sheet, sets_of(tree, sheet), tree.everything)
    return {path: looks[node] for path, node in zip(document, tree.bits)}


def sets_of(tree, sheet):
    """Return the list of the sets of the nodes that fit the selectors of a sheet."""
    return [tree.selected(row, tree.everything)[-1] for row in sheet.selector_rows()]


def truths_of(sets, node):
    """Return the tuple of the truths whether a node is in these sets."""
    return tuple([nodes & node > 0 for nodes in sets])


def looks_of(tree, sheet, sets, among):
    """Return a dict from nodes to their styles, and from 0, which is no node, to what is handed to the root.

    The nodes are those of a set that also has their parents; `sets` has those of them that fit the selectors.
    """
    cascade = Cascade(sheet, [nodes > 0 for nodes in sets])
    found = {0: cascade.top()}
    known = {}
    # All other sets have all of the nodes, or none.
    parting = [nodes for nodes in sets if 0 < nodes < among]
    for parent, children in tree.families:
        left = children & among
        while left > 0:
            node = left & -left
            left = left - node
            key = (found[parent], truths_of(parting, node))
            if key not in known:
                known[key] = cascade.style(cascade.winning(truths_of(sets, node)), found[parent])
            found[node] = known[key]
    return found

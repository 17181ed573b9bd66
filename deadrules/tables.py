"""All nodes of all documents of a grammar, and the smallest documents that have them [6]."""

from deadrules.documents import MOST_NODES, Document
from deadrules.errors import LimitExceeded
from deadrules.nodes import Nodes
from deadrules.notes import Notes
from deadrules.rows import Part, Rows

MOST_TOLD = 4000


class Table:
    """All values and nodes of the documents of a grammar that the rules of sheets tell apart.

    `notes` are those of the sheets, `parts` the list of the values, and `nodes`
    that of the nodes, both by rising totals. What it tells does not change.
    """

    def __init__(self, grammar, sheets):
        self.notes = Notes(sheets)
        lines = grammar.lines()
        rows = Rows(lines, [kind for kind in lines if grammar.least(kind) is not None], self.notes)
        self.parts = all_parts(rows, lines)
        self.nodes = all_nodes(Nodes(rows, self.notes), [part for part in self.parts if part.head[0] == grammar.root])


def all_parts(rows, lines):
    """Return the list of the values of all parts of finite size."""
    parts = {}
    rest = rows.next_rest()
    while rest is not None:
        if rest.is_whole():
            for marks in lines[rest.owner].choices():
                key = (rest.owner, marks, rest.low)
                if key not in parts:
                    parts[key] = Part((rest.owner, marks), rest.low, rest.total + 1, rest)
                    rows.put_part(parts[key])
            if len(parts) > MOST_TOLD:
                raise LimitExceeded(MOST_TOLD)
        rest = rows.next_rest()
    return list(parts.values())


def all_nodes(nodes, roots):
    """Return the list of all nodes below roots with these parts, and of these roots."""
    found = []
    for part in roots:
        nodes.put_root(part)
    node = nodes.next_node()
    while node is not None:
        if nodes.many() > MOST_TOLD:
            raise LimitExceeded(MOST_TOLD)
        found.append(node)
        nodes.put_node(node, node.total)
        node = nodes.next_node()
    return found


def answer(nodes):
    """Return an answer for the nodes of a table: a smallest document and a path, or None if there are none."""
    if not nodes:
        return None
    node = min(nodes, key=lambda one: one.total + one.body.total)
    if node.total + node.body.total > MOST_NODES:
        raise LimitExceeded(MOST_NODES)
    return document_with(node)


def document_with(node):
    """Return a smallest document with a node, and the path of the node."""
    rows = rows_of(node.body)
    path = ()
    one = node
    while one.gap is not None:
        gap = one.gap
        behind = one.rest.children()
        before = []
        while gap.source is not None:
            before.append(gap.passed)
            gap = gap.source
        path = (len(before), *path)
        one = gap.parent
        left = [row for part in reversed(before) for row in rows_of(part)]
        right = [row for part in behind for row in rows_of(part)]
        rows = [(0, *one.body.head), *deeper(left + rows + right)]
    return Document(rows), path


def deeper(rows):
    """Return rows of nodes as they stand one deeper."""
    return [(depth + 1, kind, marks) for depth, kind, marks in rows]


def rows_of(part):
    """Return the rows of the nodes of a least part with a value."""
    rows = []
    left = [(0, part)]
    while left:
        depth, one = left.pop()
        rows.append((depth, *one.head))
        for child in reversed(one.row.children()):
            left.append((depth + 1, child))
    return rows

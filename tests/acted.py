"""Sittings a second time, by the words of the document alone: a list of pairs and how far it is in effect.

Sheets have the form of oracle.py.
"""

import oracle
import told
from deadrules.documents import parse_document


def children(nodes, path):
    return sorted(one for one in nodes if len(one) == len(path) + 1 and one[:-1] == path)


def same_nodes(before, now):
    """Return the dict of the paths of the nodes that are not new, with their paths before."""
    found = {}

    def match(path, old):
        found[path] = old
        rows = [children(now, path), children(before, old)]
        for end in (0, -1):
            while rows[0] and rows[1] and now[rows[0][end]][0] == before[rows[1][end]][0]:
                match(rows[0].pop(end), rows[1].pop(end))

    match((), ())
    return found


class Acted:
    """A sitting; `form` is the sheet, `text` the text of the document."""

    def __init__(self, form, text):
        self.steps = [(form, text)]
        self.at = 0
        self.before = None

    def now(self):
        return self.steps[self.at]

    def change(self, form, text):
        self.before = self.now()
        self.steps = [*self.steps[:self.at + 1], (form, text)]
        self.at += 1

    def move(self, amount):
        """Go so many steps forth, or back; return whether there are so many."""
        if not 0 <= self.at + amount < len(self.steps):
            return False
        self.before = self.now()
        self.at += amount
        return True

    def styles(self):
        form, text = self.now()
        return oracle.styles(oracle.nodes_of(parse_document(text)), form)

    def changed(self):
        return self.unlike(lambda nodes, path, form: oracle.style(nodes, path, form))

    def touched(self):
        if self.before and oracle.sheet_text(self.before[0]) != oracle.sheet_text(self.now()[0]):
            return self.unlike(lambda nodes, path, form: [
                oracle.sheet_text(([], [form[1][rule]])) for rule in oracle.matching(nodes, path, form)])
        return self.unlike(told.state)

    def unlike(self, tell):
        """Return the paths of the nodes that are new, or of which something else is told."""
        form, text = self.now()
        nodes = oracle.nodes_of(parse_document(text))
        if self.before is None:
            return list(nodes)
        old = oracle.nodes_of(parse_document(self.before[1]))
        same = same_nodes(old, nodes)
        return [path for path in nodes
                if path not in same or tell(nodes, path, form) != tell(old, same[path], self.before[0])]

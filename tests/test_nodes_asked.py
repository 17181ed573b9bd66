"""The state, the matching rules and the winners of each node of a document: the answers, and how much is done."""

import random
import unittest

import drawn
import oracle
import told
from common import calls
from deadrules.documents import parse_document
from deadrules.papers import state
from deadrules.selectors import parse_selector
from deadrules.sheets import parse_sheet
from deadrules.styles import matching, styles, winners

SHEET = """
var v
hand h one
own p x
own q y
a > b:has(> a.x) { v: red; p: $v or z }
b + a, a b:nth(2,1) { h: inherit; q: u }
layer 1 *.x ~ b:has(a + b) { p!: w }
:first b:last { q: inherit }
a:not(.x) { p: k; v: l }
"""

# The same sheet in the form of oracle.py.
FORM = ([('var', 'v', None), ('hand', 'h', 'one'), ('own', 'p', 'x'), ('own', 'q', 'y')], [
    (0, [[('', ('a', [])), ('>', ('b', [('has', [('>', ('a', [('.', 'x')]))])]))]],
     [('v', 'red', False), ('p', '$v or z', False)]),
    (0, [[('', ('b', [])), ('+', ('a', []))], [('', ('a', [])), (' ', ('b', [('nth', 2, 1)]))]],
     [('h', 'inherit', False), ('q', 'u', False)]),
    (1, [[('', (None, [('.', 'x')])), ('~', ('b', [('has', [(' ', ('a', [])), ('+', ('b', []))])]))]], [('p', 'w', True)]),
    (0, [[('', (None, [('first',)])), (' ', ('b', [('last',)]))]], [('q', 'inherit', False)]),
    (0, [[('', ('a', [('not', ('.', 'x'))]))]], [('p', 'k', False), ('v', 'l', False)])])

SMALL = 'a(a.x(a,b,a.x),b(a,b.x,a),a.x(b,b,a))'
WIDE = 'a(' + ','.join(['b'] * 199) + ')'
CHAIN = '('.join(['a', 'b'] * 100) + ')' * 199


def grown(source, many):
    """Return a drawn document of so many nodes: each one is put below one that is there already."""
    document = parse_document(source.choice(drawn.KINDS))
    # The greater the share, the deeper the document.
    share = source.choice([0, 0.1, 0.5, 0.9])
    last = ()
    while document.size < many:
        path = last if source.random() < share else source.choice(list(document)[:source.choice([1, 5, 200])])
        index = source.randrange(document.width(path) + 1)
        document = document.inserted(path, index, parse_document(drawn.document_text(source, 1)))
        last = (*path, index)
    return document


def longer_sheet(source):
    """Return a drawn sheet of up to five rules, some with selectors of up to four compounds."""
    lines = drawn.properties(source)
    rules = []
    for _ in range(source.randrange(1, 6)):
        layer, selectors, declarations = drawn.rule(source, lines)
        rules.append((layer, [*selectors, drawn.selector(source, 4)], declarations))
    return (lines, rules)


class AnswersTest(unittest.TestCase):
    def check(self, document, form, sheet, paths):
        nodes = oracle.nodes_of(document)
        for path in paths:
            case = (sheet.text, document.text, path)
            self.assertEqual(state(sheet, document, path), told.state(nodes, path, form), case)
            self.assertEqual(matching(document, sheet, path), oracle.matching(nodes, path, form), case)
            self.assertEqual(winners(document, sheet, path), oracle.winners(nodes, path, form), case)

    def test_a_sheet(self):
        sheet = parse_sheet(SHEET)
        self.assertEqual(sheet.text, oracle.sheet_text(FORM))
        for text in [SMALL, 'a', 'a(b)', 'b(a,b)', 'a(b(a(b(a,b.x),a.x),b),b(a.x))']:
            document = parse_document(text)
            self.check(document, FORM, sheet, document)
            self.assertEqual(styles(document, sheet), oracle.styles(oracle.nodes_of(document), FORM))
        document = parse_document(SMALL)
        self.assertEqual([matching(document, sheet, path) for path in document],
                         [[4], [], [4], [], [1], [2], [4], [], [1, 4], [1], [1], [], [1, 4]])
        self.assertEqual([winners(document, sheet, path) for path in [(0,), (1,), (1, 2)]],
                         [(None,) * 4, (None, None, (2, 0), None), ((4, 1), (1, 0), (4, 0), (1, 1))])

    def test_a_widest_document(self):
        sheet = parse_sheet(SHEET)
        document = parse_document(WIDE)
        paths = list(document)
        self.check(document, FORM, sheet, [paths[at] for at in (1, 2, 3, 4, 99, 100, 198, 199)])
        wanted = [[4]] + [[1] if at % 2 == 0 else [] for at in range(198)] + [[1, 3]]
        self.assertEqual([matching(document, sheet, path) for path in document], wanted)
        self.assertEqual(state(sheet, document, ())[0], ('a', (), (), ()))

    def test_a_deepest_document(self):
        sheet = parse_sheet(SHEET)
        document = parse_document(CHAIN)
        self.assertEqual([matching(document, sheet, path) for path in document], [[4], [1, 3]] * 100)
        above = (((2, 0), (4, 0)), (), (), (), ('l', 'one', None, 'y'))
        for path in list(document)[2:]:
            told_above = (above[0], () if len(path) % 2 == 0 else ((0, 0),), *above[2:])
            value = ('ab'[len(path) % 2], (), (), ())
            self.assertEqual(state(sheet, document, path), (value, 1, True, (), (), *told_above), path)

    def test_drawn(self):
        source = random.Random(171)
        matched = 0
        for _ in range(300):
            form = longer_sheet(source)
            sheet = parse_sheet(oracle.sheet_text(form))
            document = grown(source, source.randrange(10, 26))
            paths = source.sample(list(document), 4)
            self.check(document, form, sheet, paths)
            matched += sum(bool(matching(document, sheet, path)) for path in paths)
        self.assertGreater(matched, 300)

    def test_great_ones(self):
        # What is found of all nodes at once, from the first compound on, is told of each of them, from the last one on.
        source = random.Random(172)
        some = 0
        for _ in range(40):
            form = longer_sheet(source)
            sheet = parse_sheet(oracle.sheet_text(form))
            document = grown(source, source.choice([60, 200]))
            found = [{path for text in rule[1] for path in parse_selector(text).found(document)} for rule in sheet.rules]
            for path in document:
                rules = [at for at, paths in enumerate(found) if path in paths]
                self.assertEqual(matching(document, sheet, path), rules, (sheet.text, document.text, path))
                some += 0 < len(rules) < len(found)
        self.assertGreater(some, 1000)


class WorkTest(unittest.TestCase):
    """A bound is about half of what is done if all nodes are looked at for each one."""

    def check(self, text, *bounds):
        sheet = parse_sheet(SHEET)
        document = parse_document(text)
        for call, bound in zip([lambda path: state(sheet, document, path), lambda path: matching(document, sheet, path),
                                lambda path: winners(document, sheet, path)], bounds):
            made = calls(lambda: [call(path) for path in document])
            self.assertLess(made, bound * document.size, text)

    def test_small_documents(self):
        self.check(SMALL, 450, 180, 210)
        self.check('a(b)', 270, 100, 120)
        self.check('a', 240, 70, 90)

    def test_greatest_documents(self):
        self.check(WIDE, 1500, 1000, 1000)
        self.check(CHAIN, 2500, 1500, 1500)

    def test_what_a_node_tells_by_itself(self):
        # Then nothing is done for the other nodes.
        sheet = parse_sheet('own p x\na.x:last { p: y }\nb:nth(2,1), c { p: z }\n:not(.x) > c { p: w }')
        small, great = parse_document('a(b,b)'), parse_document(WIDE)
        for call in (matching, winners):
            self.assertEqual(call(small, sheet, (0,)), call(great, sheet, (0,)))
            self.assertEqual(calls(lambda: call(small, sheet, (0,))), calls(lambda: call(great, sheet, (0,))))


if __name__ == '__main__':
    unittest.main()

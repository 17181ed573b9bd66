"""Which nodes fit a selector."""

import random
import unittest

import drawn
import oracle
from common import NO_PATHS, raised
from deadrules.documents import parse_document
from deadrules.errors import InvalidPath
from deadrules.selectors import parse_selector


def found(selector, document):
    return parse_selector(selector).found(parse_document(document))


class FoundTest(unittest.TestCase):
    def check(self, document, wanted):
        for selector, paths in wanted.items():
            self.assertEqual(found(selector, document), paths, selector)

    def test_kinds(self):
        self.check('a(b,a(b,c))', {'a': [(), (1,)], 'b': [(0,), (1, 0)], 'c': [(1, 1)], 'd': [],
                                   '*': [(), (0,), (1,), (1, 0), (1, 1)]})

    def test_marks(self):
        self.check('a.x(b.x.y,b,b.y)', {'.x': [(), (0,)], '.y': [(0,), (2,)], '.x.y': [(0,)], '.y.x': [(0,)],
                                        'b.x': [(0,)],
                                        'a.y': [], '.z': [], 'b.x.x': [(0,)], '*.y': [(0,), (2,)]})

    def test_first_and_last(self):
        self.check('a(b,c(b),d)', {':first': [(), (0,), (1, 0)], ':last': [(), (1, 0), (2,)], 'b:first': [(0,), (1, 0)],
                                   ':first:last': [(), (1, 0)], 'a:last': [()], 'a:first': [()], 'c:first': []})

    def test_turns(self):
        document = 'a(b,b,b,b,b,b,b,b,b,b)'
        for step in range(5):
            for start in range(5):
                wanted = [(at - 1,) for at in range(1, 11) if at in [step * n + start for n in range(11)]]
                self.assertEqual(found(f'b:nth({step},{start})', document), wanted, (step, start))
        self.check(document, {'b:nth(0,0)': [], 'b:nth(0,4)': [(3,)], 'b:nth(1,0)': [(at,) for at in range(10)],
                              'b:nth(4,0)': [(3,), (7,)], 'b:nth(2,4)': [(3,), (5,), (7,), (9,)]})

    def test_turns_of_the_root(self):
        for step in range(5):
            for start in range(5):
                wanted = [()] if 1 in [step * n + start for n in range(11)] else []
                self.assertEqual(found(f':nth({step},{start})', 'a'), wanted, (step, start))

    def test_negated(self):
        self.check('a.x(b.x,c,b)', {':not(b)': [(), (1,)], ':not(.x)': [(1,), (2,)], ':not(:first)': [(1,), (2,)],
                                    ':not(:last)': [(0,), (1,)], ':not(:nth(2,1))': [(1,)], 'b:not(.x)': [(2,)],
                                    ':not(b):not(a)': [(1,)], ':not(d)': [(), (0,), (1,), (2,)], 'a:not(a)': []})

    def test_joins(self):
        document = 'a(b(c,d(c)),b,d(b,c),c)'
        self.check(document, {'a c': [(0, 0), (0, 1, 0), (2, 1), (3,)], 'a > c': [(3,)], 'b c': [(0, 0), (0, 1, 0)],
                              'b > c': [(0, 0)], 'b + c': [(2, 1)], 'b ~ c': [(2, 1), (3,)], 'b + d': [(2,)],
                              'b ~ d': [(2,)], 'b + b': [(1,)], 'd + c': [(3,)], 'c > c': [], 'a + a': [], 'a a': [],
                              '* > * > *': [(0, 0), (0, 1), (0, 1, 0), (2, 0), (2, 1)], '* a': [], '* ~ a': [],
                              'b + d > c': [(2, 1)], 'b ~ d + c': [(3,)], 'a > b d > c': [(0, 1, 0)]})

    def test_a_node_is_not_related_to_itself(self):
        self.check('a(a(a),a)', {'a a': [(0,), (0, 0), (1,)], 'a a a': [(0, 0)], 'a ~ a': [(1,)], 'a:has(a)': [(), (0,
            )],
                                 'a:has(~ a)': [(0,)]})

    def test_joins_keep_within_the_parent(self):
        self.check('a(b(c),b(d,e))', {'c ~ d': [], 'c + d': [], 'c ~ b': [], 'b ~ d': [], 'd + e': [(1, 1)],
                                      'b ~ b': [(1,)]})

    def test_another_ancestor_is_tried(self):
        # The nearest one does not lead on, a farther one does.
        self.check('a(b(c(b(d))))', {'a > b d': [(0, 0, 0, 0)], 'c b d': [(0, 0, 0, 0)]})
        self.check('a(b,c,b,d)', {'c ~ b ~ d': [(3,)], 'b + c ~ d': [(3,)], 'c + b + d': [(3,)], 'c + b ~ d': [(3,)]})
        self.check('a(b,c,b,e,b,d)', {'c + b ~ d': [(5,)]})

    def test_relatives(self):
        document = 'a(b(c,d(c.x)),b,d(b,c),c)'
        self.check(document, {':has(c)': [(), (0,), (0, 1), (2,)], ':has(> c)': [(), (0,), (0, 1), (2,)],
                              'b:has(> d > c)': [(0,)], 'b:has(d c)': [(0,)], 'a:has(> d c.x)': [],
                              'a:has(d > c.x)': [()],
                              'b:has(+ d)': [(1,)], 'b:has(~ d)': [(0,), (1,)], 'b:has(+ b + d)': [(0,)],
                              'b:has(+ b ~ c)': [(0,)], 'b:has(~ d > c)': [(0,), (1,)], 'd:has(+ *)': [(2,)],
                              'a:has(> b + c)': [], 'a:has(> d + c)': [()], ':has(.x)': [(), (0,), (0, 1)],
                              ':has(> *)': [(), (0,), (0, 1), (2,)], ':has(> :not(c))': [(), (0,), (2,)]})

    def test_the_root_has_no_relatives_beside_it(self):
        self.check('a(b)', {'a:has(+ *)': [], 'a:has(~ *)': [], '* + a': [], '* ~ a': [], '* > a': [], '* a': []})

    def test_relatives_lead_on(self):
        # The first one that fits does not lead on, a later one does.
        self.check('a(b,b(c),b)', {'a:has(> b > c)': [()], 'a:has(> b:last)': [()], 'b:has(~ b > c)': [(0,)]})
        self.check('a(b(b(c)))', {'a:has(b > c)': [()], 'a:has(> b > c)': [], 'a:has(> b c)': [()]})

    def test_several_relatives(self):
        self.check('a(b(c),b(c,d),b(d))', {'b:has(c):has(d)': [(1,)], 'b:has(c) b': [], 'b:has(> d):has(+ b)': [(1,)],
                                           'b:has(c) + b:has(d) > d': [(1, 1), (2, 0)], 'a:has(c) > b:last': [(2,)]})

    def test_a_greatest_document(self):
        chain = parse_document('a(' * 199 + 'a' + ')' * 199)
        self.assertEqual(len(parse_selector('a a').found(chain)), 199)
        self.assertEqual(parse_selector('a:last').found(chain), list(chain))
        self.assertEqual(len(parse_selector('a a a:has(> a a)').found(chain)), 196)
        row = parse_document('a(' + ','.join(['b'] * 199) + ')')
        self.assertEqual(parse_selector('b:nth(4,3)').found(row), [(at,) for at in range(2, 199, 4)])
        self.assertEqual(parse_selector('b ~ b + b:has(+ b ~ b)').found(row), [(at,) for at in range(2, 197)])
        self.assertEqual(parse_selector('b:last').found(row), [(198,)])


class FitsTest(unittest.TestCase):
    def test_bools(self):
        document = parse_document('a(b,a(b))')
        selector = parse_selector('a > b')
        self.assertIs(selector.fits(document, (0,)), True)
        self.assertIs(selector.fits(document, (1, 0)), True)
        self.assertIs(selector.fits(document, (1,)), False)
        self.assertIs(selector.fits(document, ()), False)
        self.assertIs(parse_selector('a').fits(document, ()), True)

    def test_no_paths(self):
        document = parse_document('a(b,a(b))')
        for value in [*NO_PATHS, (2,), (0, 0), (1, 1), (1, 0, 0)]:
            self.assertIs(raised(InvalidPath, parse_selector('a > b').fits, document, value).path, value)

    def test_by_name(self):
        document = parse_document('a(b)')
        selector = parse_selector(text='b')
        self.assertEqual(selector.found(document=document), [(0,)])
        self.assertIs(selector.fits(document=document, path=(0,)), True)
        self.assertEqual([*selector.on(document=document)], [(0,)])


class WeightTest(unittest.TestCase):
    def test_weights(self):
        for text, weight in {'*': (0, 0), 'a': (0, 1), '.x': (1, 0), 'a.x': (1, 1), '*.x.y': (2, 0), 'a b': (0, 2),
                             'a > * + b': (0, 2), ':first:last': (2, 0), 'a:nth(2,1)': (1, 1), 'a:not(b)': (1, 1),
                             ':not(.x)': (1, 0), 'a:has(> b.x c)': (1, 1), 'a.b c:first': (2, 2),
                             'a:has(b):has(c) .x:not(:first) ~ d': (4, 2)}.items():
            self.assertEqual(parse_selector(text).weight, weight, text)
            self.assertIsInstance(parse_selector(text).weight, tuple)


class DrawnTest(unittest.TestCase):
    def test_drawn_selectors(self):
        source = random.Random(5)
        some = 0
        for _ in range(3000):
            document = parse_document(drawn.document_text(source))
            selector = drawn.selector(source)
            nodes = oracle.nodes_of(document)
            wanted = [path for path in nodes if oracle.fits(nodes, path, selector)]
            read = parse_selector(oracle.selector_text(selector))
            self.assertEqual(read.found(document), wanted, (document.text, read.text))
            self.assertEqual([path for path in document if read.fits(document, path)], wanted)
            self.assertEqual(read.weight, oracle.weight(selector))
            some += 0 < len(wanted) < document.size
        self.assertGreater(some, 500)

    def test_each_part_and_join(self):
        source = random.Random(6)
        plain = [('.', 'x'), ('first',), ('last',), *[('nth', a, b) for a in range(5) for b in range(5)]]
        parts = [*plain, ('not', ('kind', 'a')), *[('not', part) for part in plain],
                 *[('has', [(join, ('b', [part]))]) for join in ' >+~' for part in plain[:3]]]
        selectors = [[('', ('a', [part]))] for part in parts]
        selectors += [[('', ('a', [])), (join, ('b', [part]))] for join in ' >+~' for part in plain]
        for _ in range(6):
            document = parse_document(drawn.document_text(source))
            nodes = oracle.nodes_of(document)
            for selector in selectors:
                wanted = [path for path in nodes if oracle.fits(nodes, path, selector)]
                self.assertEqual(parse_selector(oracle.selector_text(selector)).found(document), wanted)


if __name__ == '__main__':
    unittest.main()

"""Selections of several selectors, and what belongs together."""

import itertools
import random
import unittest

import drawn
import oracle
from common import NO_PATHS
from deadrules.documents import parse_document
from deadrules.selectors import Found, Selection, parse_selector


def joined(selectors, left):
    """Join selectors from the left, or from the right."""
    if len(selectors) == 1:
        return selectors[0]
    if left:
        return joined(selectors[:-1], left) | selectors[-1]
    return selectors[0] | joined(selectors[1:], left)


class SelectionTest(unittest.TestCase):
    def test_two(self):
        document = parse_document('a(b,c(b),a)')
        one, other = parse_selector('b'), parse_selector('a > *')
        selection = one | other
        self.assertIsInstance(selection, Selection)
        self.assertEqual(selection.found(document), [(0,), (1,), (1, 0), (2,)])
        self.assertEqual((other | one).found(document), [(0,), (1,), (1, 0), (2,)])
        self.assertEqual(selection.texts(), ['b', 'a > *'])
        self.assertEqual((other | one).texts(), ['a > *', 'b'])

    def test_the_same_twice(self):
        document = parse_document('a(b,b)')
        selection = parse_selector('b') | parse_selector(' b ')
        self.assertEqual(selection.texts(), ['b'])
        self.assertEqual(selection.found(document), [(0,), (1,)])
        more = selection | parse_selector('a') | selection | parse_selector('b')
        self.assertEqual(more.texts(), ['b', 'a'])
        self.assertEqual(more.found(document), [(), (0,), (1,)])

    def test_nothing_changes(self):
        document = parse_document('a(b,c)')
        one, other = parse_selector('a') | parse_selector('b'), parse_selector('c')
        both = one | other
        again = other | one
        self.assertEqual([one.texts(), both.texts(), again.texts()], [['a', 'b'], ['a', 'b', 'c'], ['c', 'a', 'b']])
        self.assertEqual((one | one).texts(), ['a', 'b'])
        self.assertEqual(other.found(document), [(1,)])
        texts = both.texts()
        texts.append('x')
        paths = both.found(document)
        paths.clear()
        self.assertEqual([both.texts(), both.found(document)], [['a', 'b', 'c'], [(), (0,), (1,)]])

    def test_drawn(self):
        source = random.Random(9)
        for _ in range(400):
            document = parse_document(drawn.document_text(source))
            nodes = oracle.nodes_of(document)
            selectors = [drawn.selector(source, 2) for _ in range(source.randrange(2, 5))]
            selectors += source.sample(selectors, source.randrange(2))
            read = [parse_selector(oracle.selector_text(one)) for one in selectors]
            wanted = [path for path in nodes if any(oracle.fits(nodes, path, one) for one in selectors)]
            texts = list(dict.fromkeys(one.text for one in read))
            ways = [joined(read, True), joined(read, False), (read[0] | read[1]) | joined([*read[2:], read[0]], True)]
            for way in ways:
                self.assertEqual(way.texts(), texts)
                self.assertEqual(way.found(document), wanted)
                self.assertEqual([path for path in way.on(document)], wanted)
                self.assertEqual([path for path in document if path in way.on(document)], wanted)


class FoundTest(unittest.TestCase):
    def setUp(self):
        self.document = parse_document('a(b,c(b),a)')
        self.ways = [parse_selector('b'), parse_selector('b') | parse_selector('b:first')]

    def test_in(self):
        for way in self.ways:
            found = way.on(self.document)
            self.assertIsInstance(found, Found)
            self.assertIs((0,) in found, True)
            self.assertIs((1, 0) in found, True)
            self.assertIs(() in found, False)
            self.assertIs((1,) in found, False)
            self.assertIs((1,) not in found, True)
            for value in [*NO_PATHS, (3,), (1, 1)]:
                self.assertIs(value in found, False, value)

    def test_true_is_no_index(self):
        document = parse_document('a(a,a(a,a))')
        found = parse_selector('a').on(document)
        for value in [(True,), (False,), (1, False), (True, 0), [0], [], [1, 0], 'a', None]:
            self.assertIs(value in found, False, value)
        self.assertIs((1, 0) in found, True)
        self.assertIs(() in found, True)

    def test_iteration(self):
        for way in self.ways:
            found = way.on(self.document)
            self.assertEqual([path for path in found], [(0,), (1, 0)])
            self.assertEqual([path for path in found], [(0,), (1, 0)])
            self.assertEqual(list(found), way.found(self.document))
            self.assertEqual(list(parse_selector('d').on(self.document)), [])

    def test_by_name(self):
        selection = parse_selector('a') | parse_selector('b')
        self.assertEqual(selection.found(document=self.document), list(selection.on(document=self.document)))

    def test_new_lists(self):
        for way in self.ways:
            paths = way.found(self.document)
            found = way.on(self.document)
            paths.append(())
            self.assertEqual([way.found(self.document), list(found)], [[(0,), (1, 0)]] * 2)


class TogetherTest(unittest.TestCase):
    """What two calls tell must belong together, whatever the document is."""

    def setUp(self):
        source = random.Random(10)
        self.source = source
        self.documents = [parse_document(drawn.document_text(source)) for _ in range(120)]

    def compounds(self):
        one = drawn.compound(self.source, False)
        other = drawn.compound(self.source, False)
        return oracle.compound_text(one), oracle.compound_text(other)

    def found(self, text, document):
        return parse_selector(text).found(document)

    def test_below_and_above(self):
        for document in self.documents:
            one, other = self.compounds()
            firsts, lasts = self.found(one, document), self.found(other, document)
            pairs = [(a, b) for a in firsts for b in lasts if len(a) < len(b) and b[:len(a)] == a]
            direct = [(a, b) for a, b in pairs if len(a) + 1 == len(b)]
            self.together(document, one, other, ' ', pairs)
            self.together(document, one, other, ' > ', direct)

    def test_beside(self):
        for document in self.documents:
            one, other = self.compounds()
            firsts, lasts = self.found(one, document), self.found(other, document)
            pairs = [(a, b) for a in firsts for b in lasts if a and b and a[:-1] == b[:-1] and a[-1] < b[-1]]
            direct = [(a, b) for a, b in pairs if a[-1] + 1 == b[-1]]
            self.together(document, one, other, ' ~ ', pairs)
            self.together(document, one, other, ' + ', direct)

    def together(self, document, one, other, join, pairs):
        self.assertEqual(self.found(one + join + other, document), sorted({b for _, b in pairs}))
        # A compound with a relative in it cannot stand in a relative.
        if ':has' not in other:
            begin = '' if one == '*' else one
            self.assertEqual(self.found(f'{begin}:has({join}{other})', document), sorted({a for a, _ in pairs}))

    def test_negated_parts_part_the_nodes(self):
        for document in self.documents:
            one, _ = self.compounds()
            begin = '' if one == '*' else one
            for part in ['.x', ':first', ':last', ':nth(2,1)', ':nth(0,2)']:
                yes = self.found(f'{begin}{part}', document)
                no = self.found(f'{begin}:not({part})', document)
                self.assertEqual(sorted(yes + no), self.found(one, document))
                self.assertEqual(set(yes) & set(no), set())
            kinds = [self.found(f'{kind}:not({other})', document) for kind, other in itertools.product('abc', repeat=2)]
            self.assertEqual([bool(paths) for at, paths in enumerate(kinds) if at % 4 == 0], [False] * 3)

    def test_selections(self):
        for document in self.documents:
            one, other = [oracle.selector_text(drawn.selector(self.source)) for _ in range(2)]
            either = sorted({*self.found(one, document), *self.found(other, document)})
            self.assertEqual((parse_selector(one) | parse_selector(other)).found(document), either)


if __name__ == '__main__':
    unittest.main()

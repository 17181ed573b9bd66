"""The states of the nodes of documents."""

import random
import unittest

import drawn
import oracle
import told
from common import NO_PATHS, raised
from deadrules.documents import parse_document
from deadrules.errors import InvalidPath
from deadrules.papers import state
from deadrules.sheets import parse_sheet
from deadrules.styles import matching, styles, winners


def states(document, sheet):
    """Return the dict of the states of all nodes."""
    document, sheet = parse_document(document), parse_sheet(sheet)
    return {path: state(sheet, document, path) for path in document}


class DrawnStatesTest(unittest.TestCase):
    def test_states(self):
        source = random.Random(61)
        # For each part of a state and of its value the drawn ones that are not empty are counted.
        filled = [0] * 13
        for _ in range(3000):
            one = drawn.sheet(source, 4)
            sheet = parse_sheet(oracle.sheet_text(one))
            document = parse_document(drawn.document_text(source, source.choice([1, 2, 2, 3]), 3))
            if document.size > 12:
                continue
            nodes = oracle.nodes_of(document)
            for path in document:
                found = state(sheet, document, path)
                self.assertEqual(found, told.state(nodes, path, one), (sheet.text, document.text, path))
                for at, part in enumerate([*found[0], *found[1:]]):
                    filled[at] += bool(part)
        self.assertGreater(min(filled), 80, filled)

    def test_the_same_state_tells_the_same(self):
        source = random.Random(62)
        many = 0
        for _ in range(150):
            one = drawn.sheet(source, 4)
            sheet = parse_sheet(oracle.sheet_text(one))
            found = {}
            for _ in range(8):
                document = parse_document(drawn.document_text(source, 2, 3))
                looks = dict(styles(document, sheet))
                for path in document:
                    rest = (winners(document, sheet, path), matching(document, sheet, path), looks[path])
                    many += 1
                    before = found.setdefault(repr(state(sheet, document, path)), rest)
                    self.assertEqual(before, rest, (sheet.text, document.text, path))
        self.assertGreater(many, 2000)


class KnownStatesTest(unittest.TestCase):
    def test_nothing_to_tell(self):
        found = states('a.y.x(b,b(c))', '')
        self.assertEqual(found[()], (('a', ('x', 'y'), (), ()), 1, True, (), (), (), (), (), (), ()))
        self.assertEqual(found[(0,)], (('b', (), (), ()), 1, False, (), (), (), (), (), (), ()))
        self.assertEqual(found[(1,)], (('b', (), (), ()), 2, True, (), (), (), (), (), (), ()))
        self.assertEqual(found[(1, 0)], (('c', (), (), ()), 1, True, (), (), (), (), (), (), ()))

    def test_relatives(self):
        # Relatives are numbered by place, each one by itself, and noted by the joins before their compounds.
        sheet = ('own p q\na:has(b):has(> b + c) b:has(~ c b), c { p: x }\n'
                 'd:has(+ b > c) { p: y }\n.x:has(b) { p: z }')
        found = states('a(b,c,d,b(c,b))', sheet)
        self.assertEqual(found[()][0], ('a', (), ((1, 0), (3, 1)), ((0, 0), (2, 1), (4, 0))))
        self.assertEqual(found[(3,)][0], ('b', (), ((3, 1),), ((0, 0), (2, 1), (4, 0))))
        self.assertEqual(found[(1,)][0], ('c', (), (), ()))
        # Behind the first b stand c and d, behind them b with b and c below it.
        self.assertEqual([found[(at,)][3] for at in range(4)], [((1, 1),), (), ((3, 0),), ()])
        self.assertEqual([found[(at,)][4] for at in range(4)], [(), (), (), ()])
        self.assertEqual(states('a(b,c(b))', sheet)[(0,)][4], ((2, 0),))

    def test_items_of_selectors(self):
        # The selectors are numbered over all rules; the last compounds are noted nowhere.
        sheet = 'own p q\na b > c, d { p: x }\na > b + c ~ * { p: y }'
        found = states('a(b(c),c(a),d)', sheet)
        self.assertEqual(found[()][5:9], ((), (), (), ()))
        self.assertEqual(found[(0,)][5:9], (((0, 0),), ((2, 0),), (), ()))
        self.assertEqual(found[(0, 0)][5:9], (((0, 0),), ((0, 1),), (), ()))
        self.assertEqual(found[(1,)][5:9], (((0, 0),), ((2, 0),), ((2, 1),), ()))
        self.assertEqual(found[(1, 0)][5:9], (((0, 0),), (), (), ()))
        self.assertEqual(found[(2,)][5:9], (((0, 0),), ((2, 0),), (), ((2, 2),)))

    def test_places(self):
        wide = 'a(' + ','.join(['b'] * 30) + ')'
        for parts, start, turn in [('', 1, 1), (':nth(0,0)', 1, 1), (':nth(0,3)', 3, 1), (':nth(2,0)', 1, 2),
                                   (':nth(3,4)', 4, 3), (':nth(3,2):nth(2,4)', 4, 6), (':nth(4,1):nth(2,0)', 1, 4),
                                   (':not(:nth(3,2))', 2, 3), (':has(> b:nth(4,3))', 3, 4),
                                   (':has(b:not(:nth(4,0))):nth(3,0)', 1, 12), (':first:last', 1, 1)]:
            found = states(wide, 'own p q\n*' + parts + ' { p: x }')
            places = [found[(at,)][1] for at in range(30)]
            behind = [start + 1 + at % turn for at in range(30)]
            self.assertEqual(places, [*range(1, start + 1), *behind][:30], parts)
            self.assertEqual([found[(at,)][2] for at in range(30)], [False] * 29 + [True])
            self.assertEqual(found[()][1:3], (1, True))

    def test_all_nth_of_a_sheet_count(self):
        found = states('a(' + ','.join(['b'] * 20) + ')', 'own p q\na { p: x }\nc:nth(2,3) { p: x }\nd e:nth(3,1) { p: x }')
        self.assertEqual([found[(at,)][1] for at in range(12)], [1, 2, 3, 4, 5, 6, 7, 8, 9, 4, 5, 6])

    def test_what_is_handed_down(self):
        lines = 'var v\nhand h big\nown o thin\nown i thin'
        rules = '\na { v: 1; h: 2; o: 3; i: 4 }\n'
        found = states('a(b)', lines + rules + 'z { i: inherit }')
        self.assertEqual(found[()][9], (None, 'big', None, 'thin'))
        self.assertEqual(found[(0,)][9], ('1', '2', None, '4'))
        # It counts that a declaration gives it, not whether its rule matches; nor does `$v`.
        found = states('a(b)', lines + rules + 'b { i: $v; o: inherit }')
        self.assertEqual(found[(0,)][9], ('1', '2', '3', None))
        found = states('a(b(c))', lines + rules)
        self.assertEqual(found[(0, 0)][9], ('1', '2', None, None))

    def test_documents_of_any_grammar(self):
        self.assertEqual(states('zzz.m', 'own p q\nzzz:has(m) { p: x }')[()],
                         (('zzz', ('m',), (), ()), 1, True, (), (), (), (), (), (), (None,)))


class InvalidPathTest(unittest.TestCase):
    def test_no_paths(self):
        document = parse_document('a(b,b(c))')
        sheet = parse_sheet('own p q\nb { p: x }')
        for value in [*NO_PATHS, (2,), (0, 0), (1, 0, 0), [1]]:
            self.assertIs(raised(InvalidPath, state, sheet, document, value).path, value)


if __name__ == '__main__':
    unittest.main()

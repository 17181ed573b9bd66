"""Styles, winners and matching rules."""

import random
import unittest

import drawn
import oracle
from common import NO_PATHS, raised
from deadrules.documents import parse_document
from deadrules.errors import InvalidPath
from deadrules.sheets import parse_sheet
from deadrules.styles import matching, styles, winners


def values(document, sheet):
    """Return the list of the styles alone."""
    return [style for _, style in styles(parse_document(document), parse_sheet(sheet))]


class ValuesTest(unittest.TestCase):
    def test_nothing_wins(self):
        lines = 'var v\nhand h big\nown o none'
        document = parse_document('a(b,a(b))')
        self.assertEqual(styles(document, parse_sheet(lines)), [(path, (None, 'big', 'none')) for path in document])
        self.assertEqual(values('a(b)', ''), [(), ()])

    def test_words(self):
        self.assertEqual(values('a(b,c)', 'var v\nhand h big\nown o none\nb { v: 1; h: 2; o: 3 }'),
                         [(None, 'big', 'none'), ('1', '2', '3'), (None, 'big', 'none')])

    def test_handed_down(self):
        sheet = 'var v\nhand h big\nown o none\nb { v: 1; h: 2; o: 3 }'
        self.assertEqual(values('a(b(c(d)))', sheet), [(None, 'big', 'none'), ('1', '2', '3'), ('1', '2', 'none'),
                                                       ('1', '2', 'none')])

    def test_inherit(self):
        sheet = 'var v\nhand h big\nown o none\nb { v: 1; h: 2; o: 3 }\nc { v: inherit; h: inherit; o: inherit }'
        self.assertEqual(values('b(c(c(d)))', sheet), [('1', '2', '3')] * 3 + [('1', '2', 'none')])
        self.assertEqual(values('c(b)', sheet), [(None, 'big', 'none'), ('1', '2', '3')])

    def test_inherit_of_a_property_that_is_not_handed_down(self):
        sheet = 'own o none\nb { o: 3 }\nc { o: inherit }'
        self.assertEqual(values('b(d(c))', sheet), [('3',), ('none',), ('none',)])
        self.assertEqual(values('b(c(c))', sheet), [('3',), ('3',), ('3',)])

    def test_variables(self):
        sheet = 'var v\nhand h big\nown o none\n.x { v: red }\nb { h: $v; o: $v or blue }'
        self.assertEqual(values('a(b)', sheet), [(None, 'big', 'none'), (None, 'big', 'blue')])
        self.assertEqual(values('a.x(b)', sheet), [('red', 'big', 'none'), ('red', 'red', 'red')])
        self.assertEqual(values('a(b.x,b)', sheet), [(None, 'big', 'none'), ('red', 'red', 'red'), (None, 'big',
            'blue')])

    def test_without_a_value(self):
        # As without a winner: handed down, or the default.
        sheet = 'var v\nhand h big\nown o none\na { h: small; o: thin }\nb { h: $v; o: $v }'
        self.assertEqual(values('a(b)', sheet), [(None, 'small', 'thin'), (None, 'small', 'none')])
        document = parse_document('a(b)')
        self.assertEqual(winners(document, parse_sheet(sheet), (0,)), (None, (1, 0), (1, 1)))
        # The winner has no value, but the others still do not win.
        sheet = 'var v\nhand h big\nown o none\n* { h: small; o: thin }\na a { h: $v; o: $v }'
        self.assertEqual(values('a(a)', sheet), [(None, 'small', 'thin'), (None, 'small', 'none')])

    def test_variables_of_variables(self):
        sheet = 'var v\nvar w\nown o none\n.x { v: red }\n* { w: $v or blue; o: $w }'
        self.assertEqual(values('a(b.x(c),b)', sheet), [(None, 'blue', 'blue'), ('red', 'red', 'red'), ('red', 'red',
            'red'),
                                                        (None, 'blue', 'blue')])
        sheet = 'var v\nvar w\nown o none\n.y { w: green }\nb { w: $v; o: $w }\n.x { v: red }'
        self.assertEqual(values('a.y(b(b.x))', sheet), [(None, 'green', 'none'), (None, 'green', 'green'), ('red',
            'red', 'red')])

    def test_variables_of_the_node_itself(self):
        sheet = 'var v\nown o none\n* { o: $v or blue }\nb { v: red }\nc { v: inherit }'
        self.assertEqual(values('a(b(c),c)', sheet), [(None, 'blue'), ('red', 'red'), ('red', 'red'), (None, 'blue')])

    def test_default_words(self):
        self.assertEqual(values('a', 'var or\nown p own\n* { p: $or or or }'), [(None, 'or')])


class RanksTest(unittest.TestCase):
    def check(self, rules, wanted, document='a.x(b)', lines='own p none'):
        sheet = parse_sheet(f'{lines}\n{rules}')
        self.assertEqual(winners(parse_document(document), sheet, ()), wanted, rules)

    def test_order(self):
        self.check('a { p: x }\na { p: y }', ((1, 0),))
        self.check('a { p: x }\nb { p: y }', ((0, 0),))
        self.check('b { p: x }', (None,))

    def test_weight(self):
        self.check('.x { p: x }\na { p: y }', ((0, 0),))
        self.check('a { p: x }\n.x { p: y }', ((1, 0),))
        self.check('a.x { p: x }\n.x { p: y }', ((0, 0),))
        self.check(':first:last { p: x }\na.x { p: y }', ((0, 0),))
        self.check('* { p: x }\na { p: y }\n* { p: z }', ((1, 0),))
        self.check(':has(b) { p: x }\na { p: y }', ((0, 0),))
        self.check('a:not(b) { p: x }\n.x { p: y }', ((0, 0),))

    def test_the_greatest_weight_that_fits(self):
        self.check('*, .x { p: x }\na { p: y }', ((0, 0),))
        self.check('.x, * { p: x }\na { p: y }', ((0, 0),))
        self.check('*, .y.x { p: x }\na { p: y }', ((1, 0),))
        self.check('b, b.x, * { p: x }\na { p: y }', ((1, 0),))
        self.check('*, a { p: x }\na { p: y }', ((1, 0),))

    def test_layers(self):
        self.check('layer 1 * { p: x }\na.x { p: y }', ((0, 0),))
        self.check('layer 9 * { p: x }\nlayer 8 a.x:first:last { p: y }', ((0, 0),))
        self.check('layer 2 a { p: x }\nlayer 2 a { p: y }\nlayer 1 a.x { p: z }', ((1, 0),))

    def test_strong(self):
        self.check('* { p!: x }\nlayer 9 a.x { p: y }', ((0, 0),))
        self.check('* { p!: x }\n* { p!: y }', ((1, 0),))
        self.check('layer 1 * { p!: x }\na.x { p!: y }', ((0, 0),))
        self.check('a.x { p!: x }\n* { p!: y }', ((0, 0),))

    def test_each_property_alone(self):
        lines = 'var v\nown p none\nown q none'
        self.check('a.x { p: x; q: x }\na { p!: y; q: y }', (None, (1, 0), (0, 1)), lines=lines)
        self.check('a { q: x; v: y }\na { v: z; p: x }', ((1, 0), (1, 1), (0, 0)), lines=lines)


class AskedTest(unittest.TestCase):
    def setUp(self):
        self.sheet = parse_sheet('own p none\nvar v\na, b { p: x }\nc { v: x }\n.x, a { p: y; v: y }\nb:last { p: z }')
        self.document = parse_document('a(b.x,c,b)')

    def test_matching(self):
        found = [matching(self.document, self.sheet, path) for path in self.document]
        self.assertEqual(found, [[0, 2], [0, 2], [1], [0, 3]])
        self.assertEqual(matching(self.document, parse_sheet('own p x'), ()), [])

    def test_winners(self):
        found = [winners(self.document, self.sheet, path) for path in self.document]
        self.assertEqual(found, [((2, 0), (2, 1)), ((2, 0), (2, 1)), (None, (1, 0)), ((3, 0), None)])
        self.assertEqual(winners(self.document, parse_sheet('own p x'), ()), (None,))
        self.assertEqual(winners(self.document, parse_sheet(''), ()), ())

    def test_kinds_of_values(self):
        told = styles(self.document, self.sheet)
        self.assertIsInstance(told, list)
        self.assertEqual({(row.__class__, row[0].__class__, row[1].__class__) for row in told}, {(tuple, tuple, tuple)})
        self.assertIsInstance(winners(self.document, self.sheet, ()), tuple)
        self.assertIsInstance(matching(self.document, self.sheet, ()), list)

    def test_no_paths(self):
        for value in [*NO_PATHS, (3,), (0, 0), (1, 0)]:
            self.assertIs(raised(InvalidPath, winners, self.document, self.sheet, value).path, value)
            self.assertIs(raised(InvalidPath, matching, self.document, self.sheet, value).path, value)
            self.assertIs(raised(InvalidPath, winners, self.document, parse_sheet(''), value).path, value)
            self.assertIs(raised(InvalidPath, matching, self.document, parse_sheet(''), value).path, value)

    def test_by_name(self):
        one = {'document': self.document, 'sheet': self.sheet}
        self.assertEqual(styles(**one), styles(self.document, self.sheet))
        self.assertEqual(winners(**one, path=(0,)), winners(self.document, self.sheet, (0,)))
        self.assertEqual(matching(**one, path=(0,)), matching(self.document, self.sheet, (0,)))

    def test_new_lists(self):
        wanted = styles(self.document, self.sheet)
        styles(self.document, self.sheet).clear()
        matching(self.document, self.sheet, ()).clear()
        self.assertEqual(styles(self.document, self.sheet), wanted)
        self.assertEqual(matching(self.document, self.sheet, ()), [0, 2])

    def test_a_greatest_document(self):
        chain = parse_document('a(' * 199 + 'a.x' + ')' * 199)
        sheet = parse_sheet('hand p none\nown q none\na:first { p: x }\na a:has(.x) { p: inherit; q: inherit }\n.x { q: y }')
        told = styles(chain, sheet)
        self.assertEqual([style for _, style in told], [('x', 'none')] * 199 + [('x', 'y')])


class DrawnTest(unittest.TestCase):
    def test_drawn(self):
        source = random.Random(13)
        seen = set()
        for _ in range(700):
            document = parse_document(drawn.document_text(source))
            one = drawn.sheet(source)
            sheet = parse_sheet(oracle.sheet_text(one))
            nodes = oracle.nodes_of(document)
            told = styles(document, sheet)
            self.assertEqual(told, oracle.styles(nodes, one), (document.text, sheet.text))
            for path in document:
                self.assertEqual(winners(document, sheet, path), oracle.winners(nodes, path, one))
                self.assertEqual(matching(document, sheet, path), oracle.matching(nodes, path, one))
            seen |= {style for _, style in told}
        self.assertGreater(len(seen), 300)


class HandedDownTest(unittest.TestCase):
    """Drawn sheets without `inherit` and documents up to four deep."""

    def drawn(self, source):
        lines = [('var', 'v', None), ('var', 'w', None), ('hand', 'h', 'big'), ('own', 'o', 'none')]
        rules = []
        for _ in range(source.randrange(1, 6)):
            name = source.choice('vwho')
            value = source.choice(['1', '2', '3'])
            if name != 'v' and source.random() < 0.5:
                value = source.choice(['$v'] if name == 'w' else ['$v', '$w']) + source.choice(['', ' or 4'])
            rules.append((source.randrange(2), [drawn.selector(source, 2)], [(name, value, source.random() < 0.3)]))
        return (lines, rules)

    def test_the_nearest_node_above(self):
        source = random.Random(14)
        some = 0
        for _ in range(500):
            one = self.drawn(source)
            document = parse_document(drawn.document_text(source, 4, 2))
            sheet = parse_sheet(oracle.sheet_text(one))
            told = dict(styles(document, sheet))
            for path in document:
                won = winners(document, sheet, path)
                for at, (form, _, default) in enumerate(one[0]):
                    above = told[path[:-1]][at] if path else default
                    alone = default if form == 'own' else above
                    if won[at] is None:
                        self.assertEqual(told[path][at], alone)
                        continue
                    value = one[1][won[at][0]][2][0][1]
                    if not value.startswith('$'):
                        self.assertEqual(told[path][at], value)
                        continue
                    some += 1
                    variable = told[path]['vw'.index(value[1])]
                    self.assertEqual(told[path][at], variable or ('4' if ' or ' in value else alone))
                self.nearest(document, sheet, one[0], told, path)
        self.assertGreater(some, 100)

    def nearest(self, document, sheet, lines, told, path):
        """A value that is handed down is that of the nearest node that wins it."""
        for at, (form, _, default) in enumerate(lines):
            if form != 'own':
                above = [path[:many] for many in range(len(path), -1, -1)]
                winning = [one for one in above if winners(document, sheet, one)[at] is not None]
                self.assertEqual(told[path][at], told[winning[0]][at] if winning else default)

    def test_inherit(self):
        source = random.Random(15)
        for _ in range(300):
            lines = drawn.properties(source)
            rules = [(0, [drawn.selector(source, 2)], [(name, source.choice(['1', '2']), False) for _, name,
                                                       _ in lines])
                     for _ in range(3)]
            rules.append((1, [[('', ('b', []))]], [(name, 'inherit', False) for _, name, _ in lines]))
            document = parse_document(drawn.document_text(source, 4, 2))
            told = dict(styles(document, parse_sheet(oracle.sheet_text((lines, rules)))))
            for path in document:
                if document.kind(path) == 'b':
                    self.assertEqual(told[path], told[path[:-1]] if path else tuple(default for _, _, default in lines))


class RanksKeptTest(unittest.TestCase):
    """Changes of a sheet that leave all ranks in their order leave the styles as they are."""

    def same(self, source, kept, change):
        others = 0
        for _ in range(250):
            one = drawn.sheet(source, **kept)
            other = (one[0], change(source, one))
            document = parse_document(drawn.document_text(source))
            first, second = parse_sheet(oracle.sheet_text(one)), parse_sheet(oracle.sheet_text(other))
            self.assertEqual(styles(document, first), styles(document, second), (first.text, second.text))
            others += first != second
        self.assertGreater(others, 30)

    def test_layers_raised(self):
        def raise_layers(source, one):
            above = {0: source.randrange(3), 1: source.randrange(3, 6), 3: source.randrange(6, 9), 5: 9}
            return [(above[layer], selectors, declarations) for layer, selectors, declarations in one[1]]
        self.same(random.Random(16), {'layers': (0, 1, 3, 5)}, raise_layers)

    def test_all_strong_or_none(self):
        def strengthen(source, one):
            return [(layer, selectors, [(name, value, True) for name, value, _ in declarations])
                    for layer, selectors, declarations in one[1]]
        self.same(random.Random(17), {'strong': (False,)}, strengthen)

    def test_a_selector_twice(self):
        def double(source, one):
            return [(layer, source.sample(selectors + selectors[:1], len(selectors) + 1), declarations)
                    for layer, selectors, declarations in one[1]]
        self.same(random.Random(18), {}, double)

    def test_neighbouring_rules(self):
        def exchange(source, one):
            rules = list(one[1])
            for at in range(len(rules) - 1):
                names = [{name for name, _, _ in rule[2]} for rule in rules[at:at + 2]]
                if not names[0] & names[1]:
                    rules[at:at + 2] = [rules[at + 1], rules[at]]
                    break
            return rules
        self.same(random.Random(19), {}, exchange)

    def test_another_order_of_declarations(self):
        def shuffle(source, one):
            return [(layer, source.sample(selectors, len(selectors)), source.sample(declarations, len(declarations)))
                    for layer, selectors, declarations in one[1]]
        self.same(random.Random(20), {}, shuffle)


if __name__ == '__main__':
    unittest.main()

"""Reading and writing sheets."""

import random
import unittest

import drawn
import oracle
from common import NO_STRINGS, raised
from deadrules.errors import LimitExceeded, ParseError
from deadrules.selectors import parse_selector
from deadrules.sheets import parse_sheet

SMALL = 'var tone\nhand size big\nown box none\nlist, .hot { tone: red; size!: big }\nlayer 1 item { box: $tone or blue }'


class ReadTest(unittest.TestCase):
    def test_a_sheet(self):
        sheet = parse_sheet(SMALL)
        self.assertEqual(sheet.text, SMALL)
        self.assertEqual(sheet.names, ['tone', 'size', 'box'])
        self.assertEqual(sheet.rules, [(0, ('list', '.hot'), (('tone', 'red', False), ('size', 'big', True))),
                                       (1, ('item',), (('box', '$tone or blue', False),))])
        self.assertEqual(sheet.pieces(), [(0, 0), (0, 1), (1, 0)])

    def test_kinds_of_values(self):
        sheet = parse_sheet(SMALL)
        self.assertIsInstance(sheet.names, list)
        self.assertIsInstance(sheet.rules, list)
        self.assertIsInstance(sheet.pieces(), list)
        for rule in sheet.rules:
            self.assertEqual([part.__class__ for part in rule], [int, tuple, tuple])
            for declaration in rule[2]:
                self.assertIsInstance(declaration, tuple)
                self.assertEqual([part.__class__ for part in declaration], [str, str, bool])
        self.assertEqual({piece.__class__ for piece in sheet.pieces()}, {tuple})

    def test_nothing(self):
        for text in ['', ' ', '\n', '  \n \n']:
            sheet = parse_sheet(text)
            self.assertEqual([sheet.text, sheet.names, sheet.rules, sheet.pieces()], ['', [], [], []])

    def test_properties_alone(self):
        sheet = parse_sheet('var a\n\n own  b  0 \nhand abcdefgh 12345678\n')
        self.assertEqual([sheet.text, sheet.names, sheet.rules], ['var a\nown b 0\nhand abcdefgh 12345678',
                                                                  ['a', 'b', 'abcdefgh'], []])

    def test_blanks(self):
        for rule, wanted in {
                'a{p:x}': 'a { p: x }', '  a  {  p  :  x  }  ': 'a { p: x }', 'a,b{p:x;q:y}': 'a, b { p: x; q: y }',
                'a , b { p : x ; q : y }': 'a, b { p: x; q: y }', 'a { p!:x }': 'a { p!: x }',
                'a { p ! : x }': 'a { p!: x }',
                'a { p! :x }': 'a { p!: x }', 'a{p:$v}': 'a { p: $v }', 'a { p: $v  or  x }': 'a { p: $v or x }',
                'a{p:  inherit}': 'a { p: inherit }', 'layer 1 a { p: x }': 'layer 1 a { p: x }',
                ' layer  1  a { p: x }': 'layer 1 a { p: x }', 'layer 0 a { p: x }': 'a { p: x }',
                'layer 9 .x { p: x }': 'layer 9 .x { p: x }', 'layer 1 *{p:x}': 'layer 1 * { p: x }',
                '*.a>b :first { p: x }': '.a > b :first { p: x }', ' *.a , :has( b ){p:x}': '.a, :has(b) { p: x }',
                ':nth(2,1),a:nth( 0 , 1 ){p:x}': ':nth(2,1), a:nth(0,1) { p: x }',
                'layer 1 :not(:nth(1,2)),b{p:x}': 'layer 1 :not(:nth(1,2)), b { p: x }'}.items():
            sheet = parse_sheet('var v\nown p x\nown q x\n' + rule)
            self.assertEqual(sheet.text, 'var v\nown p x\nown q x\n' + wanted)
            self.assertEqual(parse_sheet(sheet.text).rules, sheet.rules)

    def test_empty_lines(self):
        sheet = parse_sheet('\n\nown p x\n   \nown q y\n\na { p: x }\n \n\nb { q: y }\n\n')
        self.assertEqual(sheet.text, 'own p x\nown q y\na { p: x }\nb { q: y }')

    def test_a_kind_called_layer(self):
        for rule, wanted in {'layer > a': (0, 'layer > a'), 'layer a': (0, 'layer a'), 'layer': (0, 'layer'),
                             'layer.x': (0, 'layer.x'), 'layer:nth(1,2)': (0, 'layer:nth(1,2)'), 'layer +a': (0,
                                 'layer + a'),
                             'layer 2 layer': (2, 'layer'), 'layer 0 layer > a': (0, 'layer > a'),
                             'layer 3 layer layer': (3, 'layer layer'), 'layer layer': (0, 'layer layer'),
                             'layers': (0, 'layers'), 'a layer': (0, 'a layer')}.items():
            sheet = parse_sheet(f'own p x\n{rule} {{ p: x }}')
            self.assertEqual(sheet.rules, [(wanted[0], (wanted[1],), (('p', 'x', False),))])
            self.assertEqual(parse_sheet(sheet.text).rules, sheet.rules)
        sheet = parse_sheet('own p x\nlayer, a { p: x }')
        self.assertEqual(sheet.rules[0][:2], (0, ('layer', 'a')))
        self.assertEqual(parse_sheet('own p x\nlayer > a { p: x }').text, 'own p x\nlayer > a { p: x }')

    def test_layers(self):
        for layer in range(10):
            sheet = parse_sheet(f'own p x\nlayer {layer} a {{ p: x }}')
            self.assertEqual(sheet.rules[0][0], layer)
            self.assertEqual(sheet.text, f'own p x\nlayer {layer} a {{ p: x }}' if layer else 'own p x\na { p: x }')

    def test_words_and_names(self):
        # Words of the language can be names and words, but for `inherit`.
        sheet = parse_sheet('var or\nvar inherit\nhand var own\nown layer layer\nown hand 8\n'
                            'a { var: $or or or; layer: $inherit; hand!: layer; or: or; inherit: inherit }')
        self.assertEqual(sheet.rules[0][2], (('var', '$or or or', False), ('layer', '$inherit', False), ('hand',
            'layer', True),
                                             ('or', 'or', False), ('inherit', 'inherit', False)))
        self.assertEqual(parse_sheet(sheet.text).text, sheet.text)

    def test_selectors_are_kept_as_they_stand(self):
        sheet = parse_sheet('own p x\nb, a, b, *.x { p: x }')
        self.assertEqual(sheet.rules[0][1], ('b', 'a', 'b', '.x'))

    def test_variables_of_variables(self):
        sheet = parse_sheet('var a\nvar b\nown p x\n* { b: $a; p: $b or y; a: inherit }')
        self.assertEqual(sheet.rules[0][2], (('b', '$a', False), ('p', '$b or y', False), ('a', 'inherit', False)))

    def test_drawn(self):
        source = random.Random(11)
        for _ in range(1000):
            one = drawn.sheet(source)
            wanted = oracle.sheet_text(one)
            text = drawn.loose_sheet(source, one)
            sheet = parse_sheet(text)
            self.assertEqual(sheet.text, wanted, text)
            self.assertEqual(sheet.names, [name for _, name, _ in one[0]])
            self.assertEqual(sheet.rules, [(layer, tuple(oracle.selector_text(row) for row in rows),
                                            tuple(declarations))
                                           for layer, rows, declarations in one[1]])
            self.assertEqual(sheet.pieces(), [(at, index) for at,
                                              rule in enumerate(one[1]) for index in range(len(rule[2]))])
            self.assertTrue(parse_sheet(wanted) == sheet)
            self.assertEqual(parse_sheet(wanted).text, wanted)
            for rule in sheet.rules:
                self.assertEqual(tuple(parse_selector(row).text for row in rule[1]), rule[1])

    def test_new_lists(self):
        sheet = parse_sheet(SMALL)
        for told in [sheet.names, sheet.rules, sheet.pieces()]:
            told.clear()
        self.assertEqual([len(sheet.names), len(sheet.rules), len(sheet.pieces())], [3, 2, 3])

    def test_by_name(self):
        self.assertEqual(parse_sheet(text=SMALL).only(pieces=[(1, 0)]).rules, parse_sheet(SMALL).rules[1:])


class EqualTest(unittest.TestCase):
    def test_texts(self):
        one = parse_sheet('own p x\n\nlayer 0 *.a>b{p:x}')
        self.assertTrue(one == parse_sheet('own p x\n.a > b { p: x }'))
        self.assertFalse(one != parse_sheet('own p x\n.a > b { p: x }'))
        for other in ['own p x', 'hand p x\n.a > b { p: x }', 'own p y\n.a > b { p: x }',
                      'own p x\nlayer 1 .a > b { p: x }',
                      'own p x\n.a > b { p!: x }', 'own p x\n.a > b { p: y }', 'own p x\n.a b { p: x }', '']:
            self.assertFalse(one == parse_sheet(other))
            self.assertTrue(one != parse_sheet(other))

    def test_other_kinds(self):
        sheet = parse_sheet(SMALL)
        for value in [None, SMALL, 0, [], sheet.rules, sheet.names, (SMALL,), parse_selector('a')]:
            self.assertFalse(sheet == value)
            self.assertTrue(sheet != value)


class RefusedTest(unittest.TestCase):
    def check(self, texts, begin='var v\nown p x\nown q y', end='b { q: y }'):
        """Each text must be refused, alone behind the beginning and before further lines, with its own line."""
        line = len(begin.split('\n')) + 1
        for text in texts:
            for behind in ['', '\n', '\n' + end, '\nwrong\n' + end]:
                self.assertEqual(raised(ParseError, parse_sheet, f'{begin}\n{text}{behind}').line, line, text)
            self.assertEqual(raised(ParseError, parse_sheet, f'\n{begin}\n \n{text}').line, line + 2, text)

    def test_values(self):
        for value in NO_STRINGS:
            self.assertIsNone(raised(ParseError, parse_sheet, value).line)

    def test_lines_of_properties(self):
        self.check(['var', 'var A', 'var a b', 'var a x y', 'var abcdefghi', 'var a1', 'var 1', 'var a,', 'var a;',
                    'hand', 'hand a',
                    'hand a x y', 'hand A x', 'hand a X', 'hand a abcdefghi', 'hand a 123456789', 'hand a inherit',
                    'hand a $v',
                    'hand a x;', 'hand a: x', 'hand a !', 'own', 'own a', 'own a inherit', 'own a x y', 'own a1 x',
                    'own a x_y',
                    'own a $v or x', 'Own a x', 'OWN a x', 'other a x', 'vara', 'owna x', 'a', 'x y z', 'wrong', '}',
                    'a }', ';', ':',
                    'own "a" x', 'own a x }', 'layer 1', 'layer 1 a', 'a p: x', '#', '/', '$v', '*'])

    def test_a_second_line(self):
        self.check(['var v', 'own v x', 'hand v x', 'var p', 'own p x', 'own p y', 'hand q y', 'var q'])

    def test_property_behind_a_rule(self):
        for line in ['var a', 'own a x', 'hand a x', 'own p x', 'nothing']:
            text = f'own p x\n\na {{ p: x }}\n{line}\nb {{ p: x }}'
            self.assertEqual(raised(ParseError, parse_sheet, text).line, 4)

    def test_rules(self):
        rules = ['{ p: x }', ' { p: x }', '{}', 'a {}', 'a { }', 'a {', 'a { p: x', 'a { p: x } }', 'a { { p: x }',
                 'a { p: x } b',
                 'a { p: x };', 'a { p: x }, b { p: x }', 'a { p: x } b { q: y }', 'a { p: x } 1', 'a } { p: x }',
                 'a } p: x {']
        self.check(rules)

    def test_selectors(self):
        self.check([f'{text} {{ p: x }}' for text in [
            'A', '1', 'a >', '> a', 'a,', ',a', ',', 'a,,b', 'a, ,b', 'a, b,', 'a > , b', 'a:nth(1)', 'a:nth(1,5)',
            'a:has()', '()',
            'a:not(b,c)', 'a:not(b', 'a), (b', 'a:nth(1,2', 'a)', ':not(*)', 'a:has(b:has(c))', 'abcdefghi', 'a; b',
            'a: b', 'a b1',
            'a, b >', 'b + > a, a', ' '.join(['a'] * 13), 'a, ' + ' '.join(['a'] * 13), 'a' + ':has(b)' * 12]])

    def test_layers(self):
        self.check([f'{text} {{ p: x }}' for text in [
            'layer 1', 'layer 12 a', 'layer 10 a', 'layer 1a', 'layer a1', 'layer1 a', 'layer 1, a', 'layer 1 > a',
            'layer 1 , a',
            'layer -1 a', 'layer +1 a', 'layer 1 layer 2 a', 'Layer 1 a', 'layers 1 a', 'a layer 1', 'layer 1.x',
            'layer 1:first',
            'layer 1 1 a', '1 a', 'layer 1*', 'a, layer 1 b', 'layer 01 a', 'layer  1']])

    def test_declarations(self):
        self.check([f'a {{ {text} }}' for text in [
            'p', 'p:', ': x', ':', 'p x', 'p = x', 'p: x y', 'p: x;', '; p: x', ';', 'p: x;; q: y', 'p: x; ; q: y',
            'p: x, q: y',
            'p: x q: y', 'p:: x', 'p: :x', 'p: x: y', 'p!!: x', '!p: x', 'p: !x', 'p: x!', 'p !! : x', '! : x',
            'p q: x', 'P: x', 'z: x',
            'p: x; z: y', 'vp: x', 'p1: x', 'p: X', 'p: abcdefghi', 'p: x_y', 'p: a-b', 'p: x.y', 'p: "x"',
            'p: inherit x',
            'p: inherit or x', 'p: Inherit', 'p: x or y', 'p: or y', 'p: x inherit', 'p: {x', 'p: (x)']])

    def test_a_property_twice(self):
        self.check([f'a {{ {text} }}' for text in ['p: x; p: x', 'p: x; p: y', 'p: x; p!: x', 'p!: x; p!: x',
                                                   'p: x; q: y; p: y',
                                                   'p: $v; p: inherit', 'v: x; v: x']])

    def test_variables(self):
        self.check([f'a {{ {text} }}' for text in [
            'p: $', 'p: $ v', 'p: $ v or x', 'p: $$v', 'p: v$', 'p: $z', 'p: $V', 'p: $p', 'p: $q', 'q: $p',
            'q: $p or x', 'v: $v',
            'v: $p', 'p: $v x', 'p: $v or', 'p: $v or x y', 'p: $v or inherit', 'p: $v or $v', 'p: $v orx',
            'p: $vor x', 'p: $v, x',
            'p: $v or X', 'p: $v or abcdefghi', 'p: $v and x', 'p: $v or or x', 'p: $v or x or y', 'p: or $v',
            'p: $v $v', 'p: $v!',
            'p: $inherit', 'p: $x or y', 'p: $1', 'p: -$v', 'p: $v or !', 'p: xv or x', 'p: Xv', 'p: -v or x', 'p: .v',
            'p: v or x']])

    def test_variables_behind(self):
        begin = 'own p x\nvar v\nvar w\nown q y'
        for text in ['p: $v', 'p: $w or x', 'v: $w', 'v: $v or x', 'w: $w', 'q: $p', 'v: $p', 'w: $q or x']:
            self.assertEqual(raised(ParseError, parse_sheet, f'{begin}\na {{ {text} }}').line, 5)
        for text in ['q: $v', 'q: $w or x', 'w: $v', 'w: $v or x']:
            self.assertEqual(parse_sheet(f'{begin}\na {{ {text} }}').text, f'{begin}\na {{ {text} }}')

    def test_without_properties(self):
        for text in ['a { p: x }', '\n\na { p: x }', 'a { }']:
            self.assertEqual(raised(ParseError, parse_sheet, text).line, text.count('\n') + 1)

    def test_the_first_line(self):
        self.assertEqual(raised(ParseError, parse_sheet, 'own p x\na { p: X }\nvar\nown p x').line, 2)
        self.assertEqual(raised(ParseError, parse_sheet, 'var\nvar').line, 1)


class LimitTest(unittest.TestCase):
    def test_properties(self):
        names = 'abcdefghijklm'
        lines = [f'own {name} x' for name in names]
        self.assertEqual(parse_sheet('\n'.join(lines[:12])).names, list(names[:12]))
        for more in ['own m x', 'var m', 'hand m x']:
            self.assertEqual(raised(ParseError, parse_sheet, '\n'.join([*lines[:12], '', more])).line, 14)
        self.assertEqual(raised(ParseError, parse_sheet, '\n'.join(lines)).line, 13)

    def test_compounds(self):
        text = 'own p x\n' + ' '.join(['a'] * 12) + ', b { p: x }'
        self.assertEqual(parse_sheet(text).text, text)
        text = 'own p x\nb { p: x }\n' + ' '.join(['a'] * 13) + ' { p: x }'
        self.assertEqual(raised(ParseError, parse_sheet, text).line, 3)

    def test_selectors(self):
        for rows in [['a'] * 24, ['a'] * 10 + ['b, c'] * 7, [', '.join(['a'] * 24)]]:
            text = '\n'.join(['own p x', *[f'{row} {{ p: x }}' for row in rows]])
            self.assertEqual(parse_sheet(text).text, text)
            self.assertEqual(raised(LimitExceeded, parse_sheet, text + '\na { p: x }').limit, 24)
        text = 'own p x\n' + ', '.join(['a'] * 25) + ' { p: x }'
        self.assertEqual(raised(LimitExceeded, parse_sheet, text).limit, 24)

    def test_declarations(self):
        lines = [f'own {name} x' for name in 'abcdefghijkl']
        twelve = '; '.join(f'{name}: x' for name in 'abcdefghijkl')
        text = '\n'.join([*lines, f'a, b {{ {twelve} }}', f'b {{ {twelve} }}'])
        self.assertEqual(len(parse_sheet(text).pieces()), 24)
        self.assertEqual(raised(LimitExceeded, parse_sheet, text + '\na { a: x }').limit, 24)

    def test_lines_come_first(self):
        text = '\n'.join(['own p x', *['a { p: x }'] * 30, 'wrong'])
        self.assertEqual(raised(ParseError, parse_sheet, text).line, 32)
        text = '\n'.join(['own p x', *['a { p: x }'] * 1000])
        self.assertEqual(raised(LimitExceeded, parse_sheet, text).limit, 24)


if __name__ == '__main__':
    unittest.main()

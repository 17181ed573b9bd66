"""Reading and writing selectors."""

import random
import unittest

import drawn
import oracle
from common import NO_STRINGS, raised
from deadrules.errors import InvalidText, LimitExceeded
from deadrules.selectors import parse_selector

REFUSED = ['', ' ', '   ', '\n', 'a\n', '\na', 'a\nb', 'A', 'aB', 'a1', '1', 'a_b', 'a-b', 'a#b', '#', 'a/b', 'a[b]',
           '"a"',
           # Names
           'abcdefghi', '.abcdefghi', 'a.abcdefghi', ':not(abcdefghi)', ':not(.abcdefghi)', '.', 'a.', 'a..b', '.A',
           '.1',
           '. a', 'a. b', 'a .', 'a. ', '.*', 'a.*', 'a.:first',
           # Compounds
           '**', 'a*', '*a', '.a*', '*.a*', ':first*', ':firsta', ':not(a)b', ':has(a)b', ':nth(1,1)a', 'a,b', 'a, b',
           ',', 'a,',
           # Words of parts
           ':', 'a:', '::first', ':a', ':firs', ':firsts', ':First', ':lasts', ': first', 'a: first', ':first()',
           ':first(a)',
           ':last()', ':last(1)', ':kind', ':kind(a)', ':is(a)', '.first()',
           # Turns
           ':nth', ':nth()', ':nth(1)', ':nth(1,)', ':nth(,1)', ':nth(,)', ':nth(1,2,3)', ':nth(1 2)', ':nth(12)',
           ':nth(1,12)',
           ':nth(12,1)', ':nth(01,1)', ':nth(5,1)', ':nth(1,5)', ':nth(9,9)', ':nth(-1,1)', ':nth(+1,1)', ':nth(a,1)',
           ':nth(1,a)', ':nth(1,1', ':nth 1,1)', ':nth (1,1)', ':nth(1, ,1)', ':nth((1,1))', ':nth[1,1]', ':nth(1;1)',
           ':nth(1.1)',
           # Negated parts
           ':not', ':not()', ':not( )', ':not(*)', ':not(*.a)', ':not(a.b)', ':not(.a.b)', ':not(a b)', ':not(> a)',
           ':not(a',
           ':not a)', ':not (a)', ':not(a))', ':not((a))', ':not(:not(a))', ':not(:not(.a))', ':not(:has(a))',
           ':not(a,b)',
           ':not(:first:last)', ':not(:)', ':not(.)', ':not(>first)', ':not(,last)',
           ':not(*first)', ':not(+nth(1,2))', ':not(>a)', ':not(first())', ':not(:a)', ':not(1)', ':not(:nth(1))',
           # Relatives
           ':has', ':has()', ':has( )', ':has(>)', ':has(> )', ':has(a >)', ':has(> > a)', ':has(> + a)',
           ':has(a > > b)',
           ':has(a,b)', ':has(a', ':has(a b', ':has a)', ':has (a)', ':has(a))', ':has((a))', ':has(:has(a))',
           ':has(a:has(b))', ':has(> a b:has(c))', ':has(a:not(:has(b)))', ':has(a*)', ':has(1)', ':has(:)', ':has(.)',
           # Joins
           '>', '+', '~', '> a', '+ a', '~ a', ' > a', 'a >', 'a +', 'a ~', 'a > ', 'a > > b', 'a >> b', 'a + > b',
           'a ~ ~ b',
           'a > + b', 'a > , b', 'a > )',
           # Brackets
           '(', ')', '()', '(a)', 'a(b)', 'a)', 'a (', 'a ()', 'a:first)', 'a:not(.b', '.a(', '*(', '*)']


class ReadTest(unittest.TestCase):
    def test_texts(self):
        for text, wanted in {
                'a': 'a', ' a ': 'a', '*': '*', ' * ': '*', '*.a': '.a', '*:first': ':first',
                'a.b.c:first:last': 'a.b.c:first:last',
                'a  b': 'a b', '  a   b  ': 'a b', 'a>b': 'a > b', 'a >b': 'a > b', 'a> b': 'a > b', 'a  >  b': 'a > b',
                'a+b~c d': 'a + b ~ c d', '* *': '* *', '*>*': '* > *', 'a .b': 'a .b', 'a *.b': 'a .b',
                'a :first': 'a :first',
                'a:first b': 'a:first b', '.a .b': '.a .b', ':nth( 2 , 1 )': ':nth(2,1)', ':nth(0,4)': ':nth(0,4)',
                ':not( a )': ':not(a)', ':not( .a )': ':not(.a)', ':not(:first)': ':not(:first)',
                ':not( :last )': ':not(:last)',
                ':not( :nth( 4 , 3 ) )': ':not(:nth(4,3))', ':has(a)': ':has(a)', ':has( a )': ':has(a)',
                ':has(>a)': ':has(> a)',
                ':has( > a )': ':has(> a)', ':has(+a~b)': ':has(+ a ~ b)', ':has(~ a  b)': ':has(~ a b)',
                ':has(*)': ':has(*)',
                ':has( *.a > *:not( b ) )': ':has(.a > :not(b))', '*.hot>item:has( link )': '.hot > item:has(link)',
                'a:has(> b):has(c) d:not(.x)': 'a:has(> b):has(c) d:not(.x)', 'first': 'first', 'not': 'not',
                'nth.has': 'nth.has',
                '.first:first': '.first:first', 'abcdefgh.abcdefgh': 'abcdefgh.abcdefgh', 'a.b.b': 'a.b.b',
                ':first:first': ':first:first', 'a:has(b c:not(:nth(1,0)))': 'a:has(b c:not(:nth(1,0)))'}.items():
            self.assertEqual(parse_selector(text).text, wanted)
            self.assertEqual(parse_selector(wanted).text, wanted)

    def test_drawn(self):
        source = random.Random(7)
        for _ in range(2000):
            selector = drawn.selector(source, 4)
            wanted = oracle.selector_text(selector)
            text = drawn.loose_text(source, selector)
            text = drawn.blanks(source) + text + drawn.blanks(source)
            self.assertEqual(parse_selector(text).text, wanted, text)
            self.assertEqual(parse_selector(wanted).text, wanted)

    def test_equal(self):
        self.assertTrue(parse_selector('*.a>b') == parse_selector(' .a  > b '))
        self.assertFalse(parse_selector('*.a>b') != parse_selector('.a > b'))
        self.assertTrue(parse_selector(':has(a)') == parse_selector(':has( a )'))
        for one, other in [('a', 'b'), ('a b', 'a > b'), ('.a.b', '.b.a'), ('.a', '.a.a'), (':has(a)', ':has(> a)'),
                           ('*', 'a'),
                           (':first', ':nth(0,1)')]:
            self.assertFalse(parse_selector(one) == parse_selector(other))
            self.assertTrue(parse_selector(one) != parse_selector(other))

    def test_equal_drawn(self):
        source = random.Random(8)
        selectors = [drawn.selector(source, 2) for _ in range(150)]
        read = [parse_selector(drawn.loose_text(source, one)) for one in selectors]
        for one, first in zip(selectors, read):
            for other, second in zip(selectors, read):
                self.assertIs(first == second, oracle.selector_text(one) == oracle.selector_text(other))

    def test_not_equal_to_other_kinds(self):
        selector = parse_selector('a')
        for value in [None, 'a', ('a',), ['a'], 0, True, {}, selector | selector, selector.text, (0, 1)]:
            self.assertFalse(selector == value)
            self.assertTrue(selector != value)


class RefusedTest(unittest.TestCase):
    def test_texts(self):
        for text in REFUSED:
            self.assertIs(raised(InvalidText, parse_selector, text).value, text)

    def test_behind_a_right_beginning(self):
        for begin in ['a > ', 'b.x:first ~ ', ':has(> a) + ']:
            for text in REFUSED:
                # A blank text leaves a join at the end, a right ending after it is no longer refused.
                whole = begin + text
                self.assertIs(raised(InvalidText, parse_selector, whole).value, whole)

    def test_before_a_right_end(self):
        for text in REFUSED:
            if text.strip(' ') and not text.endswith((' .', '. ')) and text[-1] not in '>+~ ':
                whole = text + ' > a'
                self.assertIs(raised(InvalidText, parse_selector, whole).value, whole)

    def test_values(self):
        for value in NO_STRINGS:
            self.assertIs(raised(InvalidText, parse_selector, value).value, value)
        self.assertIs(raised(InvalidText, parse_selector, text=None).value, None)

    def test_long_texts(self):
        for text in ['(' * 20000, ':has(' * 4000, ':not(' * 4000, ':has(a ' * 2800, '>' * 20000, '.' * 20000,
                     'a' * 20000,
                     'a > ' * 5000, ':nth(' * 4000, ')' * 20000, ' ' * 20000]:
            self.assertIs(raised(InvalidText, parse_selector, text).value, text)


class LimitTest(unittest.TestCase):
    def test_compounds(self):
        for text in [' '.join(['a'] * 12), ' > '.join(['*'] * 12), 'a:has(' + ' '.join(['b'] * 11) + ')',
                     'a' + ':has(b)' * 11, 'a:has(b c) > d:has(e):has(> f + g) ' + ' '.join(['h'] * 5)]:
            self.assertEqual(parse_selector(text).text, text)

    def test_too_many(self):
        for text in [' '.join(['a'] * 13), '>'.join(['*'] * 13), 'a:has(' + ' '.join(['b'] * 12) + ')',
                     'a' + ':has(b)' * 12,
                     'a:has(b c) > d:has(e):has(> f + g) ' + ' '.join(['h'] * 6), ' '.join(['a'] * 12) + ':has(b)',
                     ' '.join(['a'] * 10000)]:
            self.assertEqual(raised(LimitExceeded, parse_selector, text).limit, 12)

    def test_the_text_comes_first(self):
        for text in [' '.join(['a'] * 13) + ' >', ' '.join(['a'] * 13) + ' 1', ' '.join(['a'] * 13) + ' b:has(c']:
            self.assertIs(raised(InvalidText, parse_selector, text).value, text)

    def test_parts_do_not_count(self):
        text = ' '.join(['a.x.y:first:not(b):not(.z):nth(1,2)'] * 12)
        self.assertEqual(parse_selector(text).text, text)
        text = 'a' + '.x' * 9000
        self.assertEqual(parse_selector(text).weight, (9000, 1))


if __name__ == '__main__':
    unittest.main()

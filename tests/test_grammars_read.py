import unittest

from common import NO_STRINGS, raised

from deadrules.documents import parse_document
from deadrules.errors import LimitExceeded, ParseError
from deadrules.grammars import Grammar, parse_grammar

WRONG_LINES = [
    'a', 'a b', 'a b?', ':', ' : ', ': b', ' : b', 'a: b', 'a:', 'a:b', 'a :b', 'a m: b', 'a m?: b', 'a :: b', 'a : b : c',
    'a : b :', 'A : b', 'a1 : b', 'abcdefghi : b', 'a? : b', 'a ? : b', 'a* : b', '* : b', 'a.m : b', 'a(m) : b',
    'a ? : ', 'a m ? : b', 'a m?? : b', 'a ?m : b', 'a m* : b', 'a m+ : b', 'a M : b', 'a m1 : b', 'a abcdefghi : b',
    'a abcdefghi? : b', 'a .m : b', 'a m,n : b', 'a m | n : b', 'a m?n : b',
    'a m m : b', 'a m? m? : b', 'a m m? : b', 'a m? m : b', 'a m n o m : b', 'a m? n o? m : b',
    'a m? n? o? p? q? : b', 'a z m? n? o? p? q? : b',
    'a : B', 'a : b1', 'a : abcdefghi', 'a : b c abcdefghi', 'a : b.m', 'a : b, c', 'a : b & c', 'a : b - c', 'a : *',
    'a : ?', 'a : +', 'a : * b', 'a : |*', 'a : b | *', 'a : (*)', 'a : (*b)', 'a : (+ b)', 'a : b (? c)', 'a : b |+ c',
    'a : b**', 'a : b??', 'a : b++', 'a : b?*', 'a : b*?', 'a : b+*', 'a : b* *', 'a : b ? +', 'a : (b)**', 'a : ()??',
    'a : (b*)+?', 'a : (', 'a : )', 'a : ((b)', 'a : (b))', 'a : )b(', 'a : b (', 'a : b )', 'a : (b | c', 'a : b | c)',
    'a : b c d e f g h b c d e f g', 'a : ' + 'b ' * 13, 'a : (b b b b b b b | b b b b b b)', 'a : b* b? b+ ' + 'c ' * 10,
    'a : ' + '(' * 13 + 'b' + ')' * 13, 'a : ' + '(' * 13 + ')' * 13, 'a : b ((((((((((((()))))))))))))',
    'a : ' + '(' * 9000, 'a : ' + ')' * 9000, 'a : ' + '(' * 9000 + ')' * 9000, 'a : ' + '*' * 9000, 'a : ' + 'b' * 9000,
    'a : ' + 'b ' * 9000, 'a : ' + '(b' * 9000,
]


class ReadTest(unittest.TestCase):
    def rows(self, model, rows, wrong):
        """Check which rows, given as words, a model allows."""
        grammar = parse_grammar(f'a : {model}')
        for row in rows:
            self.assertIs(grammar.fits('a', row.split()), True, (model, row))
        for row in wrong:
            self.assertIs(grammar.fits('a', row.split()), False, (model, row))

    def test_words_and_blanks(self):
        for text in ['a m n? : b c', '  a   m  n?   :   b   c   ', 'a m n?  : b  c', ' a m n? : b c']:
            grammar = parse_grammar(text)
            self.assertEqual([grammar.text, grammar.root, grammar.kinds], [text, 'a', ['a', 'b', 'c']])
            self.assertEqual([document.text for document in grammar.documents(3)], ['a.m(b,c)', 'a.m.n(b,c)'])

    def test_nothing_behind_the_colon(self):
        for text in ['a :', 'a : ', ' a  :  ', 'a :\n', '\na :\n\n']:
            grammar = parse_grammar(text)
            self.assertEqual([grammar.kinds, [document.text for document in grammar.documents(12)]], [['a'], ['a']])

    def test_empty_lines(self):
        text = '\n   \n a : b\n\n\n  b : c \n \n'
        grammar = parse_grammar(text)
        self.assertEqual([grammar.text, grammar.root, grammar.kinds], [text, 'a', ['a', 'b', 'c']])
        self.assertEqual(grammar.documents(3)[0].text, 'a(b(c))')

    def test_lines_are_counted_with_empty_ones(self):
        for text, line in [('b', 1), ('\nb', 2), (' \n\n  \nb', 4), ('a : b\n\nb', 3), ('a : b\n\nb : c\n\n\nc d\n', 6),
                           ('\n\na : \n\n a :', 5), ('a :\nb :\nc :\nb :\nd', 4)]:
            self.assertEqual(raised(ParseError, parse_grammar, text).line, line)

    def test_wrong_lines(self):
        for line in WRONG_LINES:
            with self.subTest(line[:60]):
                self.assertEqual(raised(ParseError, parse_grammar, line).line, 1)
                self.assertEqual(raised(ParseError, parse_grammar, f'\nroot : x\n\n {line} ').line, 4)
                self.assertEqual(raised(ParseError, parse_grammar, f'{line}\n{line}\nb').line, 1)

    def test_first_wrong_line_is_told(self):
        self.assertEqual(raised(ParseError, parse_grammar, 'a : b\nb : (\nb : b\n?').line, 2)
        self.assertEqual(raised(ParseError, parse_grammar, 'a : b\nb : \nb : b\n?').line, 3)
        self.assertEqual(raised(ParseError, parse_grammar, 'a : b\n\na : ').line, 3)
        self.assertEqual(raised(ParseError, parse_grammar, 'a : b\n' * 3).line, 2)

    def test_no_line(self):
        for text in ['', ' ', '\n', '\n\n\n', '   \n  \n', '\n' * 20000, ' ' * 20000]:
            self.assertEqual(raised(ParseError, parse_grammar, text).line, 1)

    def test_values_that_are_no_strings(self):
        for value in NO_STRINGS + [parse_document('a'), parse_grammar('a :')]:
            self.assertIs(raised(ParseError, parse_grammar, value).line, None)

    def test_blanks_in_a_model(self):
        for model in ['(b|c)*d?', '( b | c ) * d ?', ' (b |c )*  d  ?  ', '(  b|  c)  *d?', '(b|c) *d ?']:
            self.rows(model, ['', 'd', 'b', 'c b b d'], ['d d', 'd b', 'a'])
        for model in ['b?c', 'b ?c', 'b? c', '(b)?c', '(b?)(c)', 'b?(c)']:
            self.rows(model, ['c', 'b c'], ['', 'b', 'b b c', 'c b'])
        self.rows('bc', ['bc'], ['b c'])
        self.rows('b c', ['b c'], ['bc'])

    def test_brackets_and_signs_directly_behind_the_colon(self):
        for text in ['a :(b)', 'a :( b)', 'a :|b', 'a :(b)|']:
            self.assertTrue(parse_grammar(text).fits('a', ['b']))

    def test_marks_and_models_take_signs_differently(self):
        self.assertEqual(raised(ParseError, parse_grammar, 'a m ? : b').line, 1)
        for model in ['b?', 'b ?', 'b  ?']:
            self.rows(model, ['', 'b'], ['b b'])

    def test_signs(self):
        self.rows('b', ['b'], ['', 'b b', 'c'])
        self.rows('b?', ['', 'b'], ['b b'])
        self.rows('b*', ['', 'b', 'b b', 'b ' * 50], ['c', 'b c'])
        self.rows('b+', ['b', 'b b', 'b ' * 50], ['', 'c', 'b c'])
        self.rows('(b c)?', ['', 'b c'], ['b', 'c', 'b c b c'])
        self.rows('(b c)*', ['', 'b c', 'b c b c'], ['b', 'c', 'c b'])
        self.rows('(b c)+', ['b c', 'b c b c'], ['', 'b', 'c', 'c b'])
        self.rows('b c*', ['b', 'b c c'], ['', 'c', 'b c b c'])
        self.rows('b* c', ['c', 'b b c'], ['', 'b', 'b c c'])
        self.rows('(b?)*', ['', 'b', 'b b'], ['c'])
        self.rows('(b*)?', ['', 'b', 'b b'], ['c'])
        self.rows('(b+)?', ['', 'b', 'b b'], ['c'])
        self.rows('(b?)+', ['', 'b', 'b b'], ['c'])
        self.rows('((b)*)+', ['', 'b', 'b b'], ['c'])

    def test_one_behind_the_other_is_stronger_than_a_choice(self):
        self.rows('b c | d', ['b c', 'd'], ['b', 'c', 'b d', 'b c d', ''])
        self.rows('b | c d', ['b', 'c d'], ['c', 'b d', 'd', ''])
        self.rows('b (c | d)', ['b c', 'b d'], ['b', 'd', ''])
        self.rows('b | c*', ['', 'b', 'c c'], ['b c', 'b b'])
        self.rows('b | c | d', ['b', 'c', 'd'], ['', 'b c'])

    def test_nothing_is_the_empty_row(self):
        for model in ['', '|', '||', '()', '( )', '(|)', '()()', '()*', '(|)+', '()?', '(())', '() | ()', '((|)|)*']:
            self.rows(model, [''], ['a', 'b'])
        for model in ['|b', 'b|', '()|b', 'b|()', '(|b)', '(b|)', 'b||', '|b|', '( | b )', 'b | ( )']:
            self.rows(model, ['', 'b'], ['b b', 'a'])
        for model in ['b ()', '()b', '() b ()', 'b(|)', '(|)*b']:
            self.rows(model, ['b'], ['', 'b b'])
        self.rows('(|b)+', ['', 'b', 'b b'], ['a'])
        self.rows('b|()*', ['', 'b'], ['b b'])

    def test_limits_of_a_line(self):
        grammar = parse_grammar('a z m? n? o? y p? : ')
        self.assertEqual(len(grammar.documents(1)), 16)
        marks = [a + b for a in 'abcdefgh' for b in 'abcdefgh']
        self.assertEqual(parse_grammar(f'a {" ".join(marks)} : ').documents(1)[0].marks(()), tuple(sorted(marks)))
        self.assertTrue(parse_grammar('a : ' + 'b ' * 12).fits('a', ['b'] * 12))
        self.assertTrue(parse_grammar('a : (b b b b b b | b b b b b b)').fits('a', ['b'] * 6))
        self.assertTrue(parse_grammar('a : ' + '(' * 12 + 'b' + ')' * 12).fits('a', ['b']))
        self.assertTrue(parse_grammar('a : ' + '(' * 12 + ')' * 12 + ' b').fits('a', ['b']))
        self.assertTrue(parse_grammar('a : ' + '(()b?)' * 12 + '()' * 5000).fits('a', ['b'] * 12))
        self.assertTrue(parse_grammar('a : b' + '|' * 9000).fits('a', []))

    def test_names_of_eight_letters(self):
        grammar = parse_grammar('abcdefgh ijklmnop qrstuvwx? : stuvwxyz')
        self.assertEqual(grammar.documents(2)[1].text, 'abcdefgh.ijklmnop.qrstuvwx(stuvwxyz)')

    def test_a_mark_can_have_the_name_of_a_kind(self):
        self.assertEqual([document.text for document in parse_grammar('a a b? : b').documents(2)],
                         ['a.a(b)', 'a.a.b(b)'])

    def test_limit_of_kinds(self):
        eight = ['a : b c\nb : d\nc : e f\nd : g h', 'a : b c d e f g h', '\n'.join(f'{kind} : ' for kind in 'abcdefgh'),
                 'a : a b c d e f g h a b c d']
        for text in eight:
            self.assertEqual(sorted(parse_grammar(text).kinds), list('abcdefgh'))
        nine = [text.replace('a :', 'a : i ', 1) for text in eight[:3]] + [text + '\ni :' for text in eight]
        nine += ['a : b c d e f g h i', 'a m n : i b c d e f g h', 'a : b c d e f g\nb : h i', 'a :\nb : c d e f g h i j k']
        for text in nine:
            self.assertEqual(raised(LimitExceeded, parse_grammar, text).limit, 8)

    def test_marks_are_no_kinds(self):
        self.assertEqual(parse_grammar('a i j k? l? : b c d e f g h').kinds, list('abcdefgh'))

    def test_limit_is_told_last(self):
        nine = 'a : b c d e f g h i'
        self.assertEqual(raised(ParseError, parse_grammar, nine + '\nb').line, 2)
        self.assertEqual(raised(ParseError, parse_grammar, nine + '\nb : j k l\n\na :').line, 4)

    def test_by_name(self):
        self.assertIsInstance(parse_grammar(text='a :'), Grammar)


if __name__ == '__main__':
    unittest.main()

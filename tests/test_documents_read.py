import random
import unittest

from common import NO_STRINGS, raised

from deadrules.documents import Document, parse_document
from deadrules.errors import InvalidText, LimitExceeded

WRONG = [
    '', ' ', 'a ', ' a', 'a b', 'a (b)', 'a( b)', 'a(b )', 'a(b, c)', 'a(b) ', 'a\n', '\na', 'a.b .c', 'a. b',
    '.', '.a', 'a.', 'a..b', 'a.b.', 'a.(b)', 'a(.b)', 'a(b.)', 'a.b.b', 'a.b.c.b', 'a(b.c.c)',
    '()', 'a()', 'a(b())', '(a)', 'a((b))', 'a(b)(c)', 'a(b)c', 'a(b).c', 'a(b)d(e)', 'a(b', 'a(b(c)', 'a)', 'a(b))',
    'a(', ')', '(', ',', 'a,', ',a', 'a,b', 'a(b),c', 'a(,b)', 'a(b,)', 'a(b,,c)', 'a(,)', 'a(b),', 'a(b)x', 'a(b)\n',
    'abcdefghi', 'a.abcdefghi', 'a(abcdefghi)', 'A', 'a.B', 'aB', 'a1', '1', 'a_b', 'a-b', 'a*', '*', 'a:first', 'a>b',
    'a(b;c)', 'a[b]', 'a{b}', 'a~', "a'", 'a"', 'a(b.c,b.c.c)',
]


def wide(nodes):
    return 'a(' + ','.join(['b'] * (nodes - 1)) + ')'


def deep(nodes):
    return 'a(' * (nodes - 1) + 'a' + ')' * (nodes - 1)


def random_text(random_source, nodes):
    """Return a text with marks in any order and its written form."""
    kind = random_source.choice(['a', 'list', 'abcdefgh'])
    marks = random_source.sample(['b', 'hot', 'new', 'zzzzzzzz', 'ho'], random_source.randrange(4))
    read = '.'.join([kind, *marks])
    written = '.'.join([kind, *sorted(marks)])
    nodes -= 1
    below = []
    while nodes > 0:
        many = random_source.randint(1, nodes)
        below.append(random_text(random_source, many))
        nodes -= many
    if below:
        read += '(' + ','.join([one for one, _ in below]) + ')'
        written += '(' + ','.join([other for _, other in below]) + ')'
    return read, written


class ReadTest(unittest.TestCase):
    def test_kind_alone(self):
        document = parse_document('list')
        self.assertIsInstance(document, Document)
        self.assertEqual([document.text, document.size, list(document)], ['list', 1, [()]])
        self.assertEqual([document.kind(()), document.marks(()), document.width(())], ['list', (), 0])

    def test_names_of_one_to_eight_letters(self):
        for name in ['a', 'z', 'abcdefgh', 'zzzzzzzz']:
            document = parse_document(f'{name}.{name}({name})')
            self.assertEqual(document.text, f'{name}.{name}({name})')
        for name in ['abcdefghi', 'zzzzzzzzzz']:
            for text in [name, f'a.{name}', f'a({name})', f'a(b.{name})']:
                self.assertIs(raised(InvalidText, parse_document, text).value, text)

    def test_marks_in_any_order_are_sorted(self):
        for text in ['a.b.c.d', 'a.d.c.b', 'a.c.d.b', 'a.b.d.c']:
            document = parse_document(text)
            self.assertEqual([document.text, document.marks(())], ['a.b.c.d', ('b', 'c', 'd')])
        document = parse_document('list.hot.ho.h(item.new.hot,a.a)')
        self.assertEqual(document.text, 'list.h.ho.hot(item.hot.new,a.a)')
        self.assertEqual(document.marks((0,)), ('hot', 'new'))

    def test_wrong_texts(self):
        for text in WRONG:
            with self.subTest(text):
                self.assertIs(raised(InvalidText, parse_document, text).value, text)

    def test_values_that_are_no_strings(self):
        for value in NO_STRINGS + [parse_document('a'), parse_document]:
            self.assertIs(raised(InvalidText, parse_document, value).value, value)

    def test_limit_of_nodes(self):
        for text in [wide(200), deep(200)]:
            document = parse_document(text)
            self.assertEqual([document.size, document.text, len(list(document))], [200, text, 200])
        for text in [wide(201), deep(201), wide(5000), deep(5000), 'a(' + wide(100) + ',' + deep(100) + ')']:
            self.assertEqual(raised(LimitExceeded, parse_document, text).limit, 200)

    def test_wrong_is_told_before_too_great(self):
        for text in [wide(300), deep(300)]:
            for wrong in [text + ')', text + ',', text + ' ', text[:-1], text[:-1] + ',)', text[:-1] + 'A)', ' ' + text,
                          text.replace('a', 'a.b.b', 1), 'abcdefghi' + text[1:]]:
                self.assertIs(raised(InvalidText, parse_document, wrong).value, wrong)

    def test_great_texts(self):
        wrong = ['(' * 20000, ')' * 20000, 'a(' * 10000, '()' * 10000, ',' * 20000, '.' * 20000, 'a' * 20000,
                 'a.' * 10000, 'a,' * 10000, 'a(' * 6600 + ')' * 6600, 'a(' * 6600 + 'a' + ')' * 6599,
                 'a(' * 6600 + 'a' + ')' * 6601, 'a' + '.b' * 9999, '(' * 9999 + 'a' + ')' * 9999]
        for text in wrong:
            self.assertIs(raised(InvalidText, parse_document, text).value, text)
        for text in [deep(6600), wide(9999)]:
            self.assertEqual(raised(LimitExceeded, parse_document, text).limit, 200)
        marks = sorted({a + b + c for a in 'abcdefghij' for b in 'abcdefghij' for c in 'abcdefghij'})
        text = 'a.' + '.'.join(marks)
        self.assertEqual(parse_document('a.' + '.'.join(reversed(marks))).text, text)
        self.assertEqual(parse_document(text).marks(()), tuple(marks))

    def test_what_is_written_is_read_back(self):
        source = random.Random(1)
        for number in range(200):
            read, written = random_text(source, source.randint(1, 30))
            document = parse_document(read)
            self.assertEqual(document.text, written)
            again = parse_document(document.text)
            self.assertEqual(again, document)
            self.assertEqual([again.text, list(again)], [document.text, list(document)])

    def test_by_name(self):
        self.assertEqual(parse_document(text='a(b)').text, 'a(b)')


if __name__ == '__main__':
    unittest.main()

import time
import unittest

from common import NO_INTEGERS, NO_NAMES, raised

from deadrules.documents import Document, parse_document
from deadrules.errors import InvalidNumber, InvalidPart, LimitExceeded
from deadrules.grammars import parse_grammar

# The root has 16 * 5 ** 4 * 2 == 20000 documents, none of which has more than eleven nodes.
GREATEST = 'r k? l? m? n? : b b b b g?\nb : (c | d | e | f)?'


def texts(documents):
    return [document.text for document in documents]


class AskedTest(unittest.TestCase):
    def setUp(self):
        self.grammar = parse_grammar('list : item+\nitem hot? new : (link | list)?')

    def wrong(self, text):
        return self.grammar.first_wrong(parse_document(text))

    def test_text_root_and_kinds(self):
        for text, kinds in [('a : c b\nd : e\nb : f', ['a', 'c', 'b', 'd', 'e', 'f']), ('z :\na : z', ['z', 'a']),
                            ('  b x : b b*\n\n', ['b']), ('m : n | (o m)* n', ['m', 'n', 'o'])]:
            grammar = parse_grammar(text)
            self.assertEqual([grammar.text, grammar.root, grammar.kinds], [text, kinds[0], kinds])

    def test_properties_cannot_be_set(self):
        for name in ['text', 'root', 'kinds']:
            with self.assertRaises(AttributeError):
                setattr(self.grammar, name, 1)

    def test_kinds_is_a_new_list(self):
        kinds = self.grammar.kinds
        kinds.append('more')
        kinds[0] = 'other'
        self.assertEqual([self.grammar.kinds, self.grammar.root], [['list', 'item', 'link'], 'list'])
        self.assertEqual(raised(InvalidPart, self.grammar.least, 'more').value, 'more')

    def test_fits(self):
        for row in [['item'], ['item', 'item'], ['item'] * 100]:
            self.assertIs(self.grammar.fits('list', row), True)
            self.assertIs(self.grammar.fits('list', tuple(row)), True)
        for row in [[], ['link'], ['list'], ['item', 'link'], ['item', 'link', 'item'], ['item'] * 100 + ['list']]:
            self.assertIs(self.grammar.fits('list', row), False)
            self.assertIs(self.grammar.fits('list', tuple(row)), False)
        for row in [[], ['link'], ['list']]:
            self.assertIs(self.grammar.fits('item', row), True)
        for row in [['item'], ['link', 'list'], ['link', 'link']]:
            self.assertIs(self.grammar.fits('item', row), False)

    def test_fits_with_names_that_are_no_kinds(self):
        for name in ['hot', 'other', 'items', 'abcdefghi', '']:
            for row in [[name], ['item', name], [name, 'item'], ['item', name, 'item']]:
                self.assertIs(self.grammar.fits('list', row), False)
        self.assertIs(parse_grammar('a : b*').fits('a', ['b'] * 19999 + ['x']), False)

    def test_fits_for_kinds_without_a_line(self):
        self.assertIs(self.grammar.fits('link', []), True)
        self.assertIs(self.grammar.fits('link', ()), True)
        self.assertIs(self.grammar.fits('link', ['link']), False)
        self.assertIs(self.grammar.fits('link', ['other']), False)

    def test_values_that_are_no_kinds(self):
        for kind in NO_NAMES + ['hot', 'other', 'lists', parse_document('list')]:
            self.assertIs(raised(InvalidPart, self.grammar.least, kind).value, kind)
            for row in [[], ['item'], ('other',)]:
                self.assertIs(raised(InvalidPart, self.grammar.fits, kind, row).value, kind)

    def test_long_rows_and_stars_inside_of_stars(self):
        start = time.monotonic()
        only_b = ['((((((b*)*)*)*)*)*)*', '(b*)*(b*)*(b*)*', '((b?)+)+']
        b_and_c = ['((b*c*)*(b+c?)*)*', '(((b|c)*|(c|b)*)*)*', '(b*)*(b*)*(b*)*(b|c)*', '(((b?)+)+|((c?)+)+)+',
                   '(b?b?b?b?b?b?c?c?c?c?c?c?)*', '((b|b)*(b|b)*(b|b)*(c|b)*)*']
        for model in only_b + b_and_c:
            grammar = parse_grammar(f'a : {model}')
            self.assertIs(grammar.fits('a', ['b'] * 20000), True)
            self.assertIs(grammar.fits('a', ['b'] * 19999 + ['a']), False)
            self.assertIs(grammar.fits('a', ['b', 'c'] * 10000), model in b_and_c)
        self.assertLess(time.monotonic() - start, 30)

    def test_first_wrong_root(self):
        for text in ['item.new', 'link', 'other', 'item.new(list(item.new))', 'other(list)']:
            self.assertEqual(self.wrong(text), ())

    def test_first_wrong_marks(self):
        self.assertEqual(self.wrong('list(item.new)'), None)
        self.assertEqual(self.wrong('list(item.new.hot)'), None)
        self.assertEqual(self.wrong('list(item)'), (0,))
        self.assertEqual(self.wrong('list(item.hot)'), (0,))
        self.assertEqual(self.wrong('list(item.new,item.hot.new.x)'), (1,))
        self.assertEqual(self.wrong('list.new(item.new)'), ())
        self.assertEqual(self.wrong('list(item.new(link.hot))'), (0, 0))

    def test_first_wrong_row(self):
        self.assertEqual(self.wrong('list'), ())
        self.assertEqual(self.wrong('list(link)'), ())
        self.assertEqual(self.wrong('list(item.new,link)'), ())
        self.assertEqual(self.wrong('list(item.new(item.new))'), (0,))
        self.assertEqual(self.wrong('list(item.new(link),item.new(link,link))'), (1,))
        self.assertEqual(self.wrong('list(item.new(link(link)))'), (0, 0))
        self.assertEqual(self.wrong('list(item.new(list))'), (0, 0))

    def test_first_wrong_kind(self):
        self.assertEqual(self.wrong('list(other)'), ())
        self.assertEqual(self.wrong('list(item.new(other))'), (0,))
        self.assertEqual(self.wrong('list(item.new(link(other)))'), (0, 0))

    def test_first_wrong_is_the_first(self):
        self.assertEqual(self.wrong('list(item.new,item.new(list(item)),item,item.x)'), (1, 0, 0))
        self.assertEqual(self.wrong('list(item.new,item.new(list(item.new)),item,item.x)'), (2,))
        self.assertEqual(self.wrong('list(item.new(list(item.new(list(item)))),item)'), (0, 0, 0, 0, 0))
        self.assertEqual(self.wrong('list(item,other)'), ())

    def test_first_wrong_none(self):
        for text in ['list(item.new)', 'list(item.new(link),item.hot.new(list(item.new)))',
                     'list(' + ','.join(['item.new'] * 199) + ')']:
            self.assertIs(self.wrong(text), None)
        grammar = parse_grammar('a : a?')
        self.assertIs(grammar.first_wrong(parse_document('a(' * 199 + 'a' + ')' * 199)), None)
        self.assertEqual(grammar.first_wrong(parse_document('a(' * 199 + 'a.m' + ')' * 199)), (0,) * 199)

    def test_least(self):
        self.assertEqual([self.grammar.least(kind) for kind in ['list', 'item', 'link']], [2, 1, 1])

    def test_least_of_chains(self):
        lines = [f'{kind} : ' + f'{below} ' * 12 for kind, below in zip('abcdefg', 'bcdefgh')]
        grammar = parse_grammar('\n'.join(lines))
        expected = 1
        for kind in 'hgfedcba':
            self.assertEqual(grammar.least(kind), expected)
            expected = 12 * expected + 1
        self.assertEqual(grammar.least('a'), sum([12 ** power for power in range(8)]))
        grammar = parse_grammar('\n'.join(reversed(lines)))
        self.assertEqual([grammar.root, grammar.least('g'), grammar.least('a')], ['g', 13, sum(12 ** k for k in range(8))])

    def test_least_of_kinds_that_need_themselves(self):
        grammar = parse_grammar('a : b c\nb : b\nc : d+ | (a b)\nd : c\ne : a | f\nf : e?')
        self.assertEqual([grammar.least(kind) for kind in 'abcdef'], [None, None, None, None, 2, 1])
        self.assertIs(parse_grammar('a : a').least('a'), None)
        self.assertIs(parse_grammar('a : a+').least('a'), None)
        self.assertEqual([parse_grammar(f'a : {model}').least('a') for model in ['a?', 'a*', '|a', '(a|b)', 'a* b']],
                         [1, 1, 1, 2, 2])

    def test_least_of_choices(self):
        lines = 'b m? :\ne : b b b b b (c | b) |\nf : (e e | b c) h b c\nh : f? b\ng : g'
        cases = [('b b b | c c', 3), ('(b | c c) (c | b b)', 3), ('b+ c+ d?', 3), ('(b c)+ (b c)* (b | c)?', 3),
                 ('h | b b b b', 3), ('h | f', 3), ('f | b b b b b b b b', 8), ('e e | f', 3), ('(f | b) b | f', 3),
                 ('()', 1), ('g | h', 3), ('(g | f)+', 8), ('(f | h)+ h', 5), ('g* h', 3), ('f? h', 3), ('g', None)]
        for model, size in cases:
            grammar = parse_grammar(f'a : {model}\n{lines}')
            self.assertEqual(grammar.least('a'), size, model)
            self.assertEqual([grammar.least(kind) for kind in 'befgh'], [1, 1, 7, None, 2])
        grammar = parse_grammar('a : b b b | c c\nb : d\nc : b b\nd :')
        self.assertEqual([grammar.least(kind) for kind in 'abcd'], [7, 2, 5, 1])
        grammar = parse_grammar('a : b b | c\nb : d\nc : b b\nd :')
        self.assertEqual([grammar.least(kind) for kind in 'abcd'], [5, 2, 5, 1])
        grammar = parse_grammar('a : (b | c) (c | b b b) d?\nb : d d\nc : b b\nd :')
        self.assertEqual([grammar.least(kind) for kind in 'abcd'], [11, 3, 7, 1])

    def test_documents_of_small_numbers(self):
        self.assertEqual(self.grammar.documents(0), [])
        self.assertEqual(self.grammar.documents(1), [])
        self.assertEqual(texts(self.grammar.documents(2)), ['list(item.hot.new)', 'list(item.new)'])
        self.assertEqual(texts(parse_grammar('a m? : b*').documents(1)), ['a', 'a.m'])
        self.assertEqual(texts(parse_grammar('a z m? b? :').documents(12)), ['a.b.m.z', 'a.b.z', 'a.m.z', 'a.z'])

    def test_documents_in_their_order(self):
        grammar = parse_grammar('a : (b | c)*\nb b? : c?')
        found = grammar.documents(5)
        self.assertEqual(texts(found), texts(sorted(found, key=lambda one: (one.size, one.text))))
        self.assertEqual(texts(found)[:10], ['a', 'a(b)', 'a(b.b)', 'a(c)', 'a(b(c))', 'a(b,b)', 'a(b,b.b)', 'a(b,c)',
                                             'a(b.b(c))', 'a(b.b,b)'])
        self.assertEqual(len(set(texts(found))), len(found))

    def test_documents_are_documents(self):
        for document in self.grammar.documents(4):
            self.assertIsInstance(document, Document)
            self.assertIs(self.grammar.first_wrong(document), None)
            again = parse_document(document.text)
            self.assertEqual([again, again.size, list(again)], [document, document.size, list(document)])
            self.assertEqual([document.marks(path) for path in document], [again.marks(path) for path in again])

    def test_documents_of_a_model_with_several_ways_each_once(self):
        for model in ['b* b*', '(b*)*', 'b | b', '(b | b b)*', '(b?)*', '(b+)+', 'b? b? b? b* b?']:
            found = texts(parse_grammar(f'a : {model}').documents(12))
            expected = ['a'] + ['a(' + ','.join(['b'] * many) + ')' for many in range(1, 12)]
            if model == 'b | b':
                expected = ['a(b)']
            if model == '(b+)+':
                expected = expected[1:]
            self.assertEqual(found, expected)

    def test_documents_of_twelve_nodes(self):
        found = parse_grammar('a : b\nb : (c | b)?').documents(12)
        self.assertEqual([document.size for document in found], [2] + [k for k in range(3, 13) for _ in range(2)])
        self.assertEqual(found[-1].text, 'a(' + 'b(' * 10 + 'c' + ')' * 11)

    def test_documents_with_wrong_numbers(self):
        for most in NO_INTEGERS + [-1, 13, 14, 10 ** 29, -10 ** 29]:
            self.assertIs(raised(InvalidNumber, self.grammar.documents, most).value, most)
            self.assertIs(raised(InvalidNumber, parse_grammar('a : a').documents, most).value, most)

    def test_limit_of_documents(self):
        found = parse_grammar(GREATEST).documents(12)
        self.assertEqual([len(found), len(set(texts(found)))], [20000, 20000])
        self.assertEqual([found[0].text, found[0].size, found[-1].size], ['r(b,b,b,b)', 5, 10])
        keys = [(document.size, document.text) for document in found]
        self.assertEqual(keys, sorted(keys))
        more = parse_grammar('a : r | g\n' + GREATEST)
        self.assertEqual(raised(LimitExceeded, more.documents, 12).limit, 20000)
        self.assertEqual(raised(LimitExceeded, more.documents, 11).limit, 20000)
        self.assertEqual(len(more.documents(10)), 20001 - 16 * 4 ** 4)

    def test_far_too_many_documents(self):
        start = time.monotonic()
        kinds = ' | '.join('abcdefgh')
        lines = [f'{kind} k? l? m? n? : ({kinds})*' for kind in 'abcdefgh']
        grammar = parse_grammar('\n'.join(lines))
        self.assertEqual(len(grammar.documents(1)), 16)
        self.assertEqual(len(grammar.documents(2)), 16 + 16 * 128)
        for most in range(3, 13):
            self.assertEqual(raised(LimitExceeded, grammar.documents, most).limit, 20000)
        grammar = parse_grammar('a : (a | b)* a (a | b)? (b | a)? (a | b)? (b | a)?\nb m? n? o? p? :')
        self.assertEqual(grammar.documents(12), [])
        self.assertLess(time.monotonic() - start, 30)

    def test_parts_that_no_document_has_are_not_listed(self):
        start = time.monotonic()
        many = 'c k? l? m? n? : (c | d | e)*\nd k? l? m? n? : (c | d | e)*\ne k? l? m? n? : (c | d | e)*'
        grammar = parse_grammar(f'a : b? | c b b\nb : b\n{many}')
        self.assertEqual(texts(grammar.documents(12)), ['a'])
        grammar = parse_grammar(f'a : | b b b b b b b b b b c\n{many}')
        self.assertEqual(len(grammar.documents(12)), 17)
        self.assertEqual(grammar.documents(11), grammar.documents(1))
        self.assertLess(time.monotonic() - start, 30)

    def test_no_finite_document(self):
        for text in ['a : a', 'a : a+', 'a : b\nb : a', 'a : b c\nb : b\nc :', 'a : (b | a) c\nb : b*\nc : c']:
            for most in range(13):
                self.assertEqual(parse_grammar(text).documents(most), [])

    def test_lists_are_not_kept(self):
        first = self.grammar.documents(3)
        expected = texts(first)
        first.clear()
        second = self.grammar.documents(3)
        self.assertEqual(texts(second), expected)
        second[0] = None
        self.assertEqual(texts(self.grammar.documents(3)), expected)
        row = ['item', 'item']
        self.assertIs(self.grammar.fits('list', row), True)
        self.assertEqual(row, ['item', 'item'])
        row.append('link')
        self.assertIs(self.grammar.fits('list', ['item', 'item']), True)
        self.assertIs(self.grammar.fits('list', row), False)

    def test_same_answers_again(self):
        for _ in range(2):
            self.assertEqual([self.grammar.least('list'), self.wrong('list'), len(self.grammar.documents(4))], [2, (), 28])

    def test_by_name(self):
        self.assertIs(self.grammar.fits(kind='list', kinds=['item']), True)
        self.assertIs(self.grammar.fits(kinds=[], kind='list'), False)
        self.assertIs(self.grammar.first_wrong(document=parse_document('list(item.new)')), None)
        self.assertEqual(self.grammar.least(kind='list'), 2)
        self.assertEqual(len(self.grammar.documents(most=2)), 2)


if __name__ == '__main__':
    unittest.main()

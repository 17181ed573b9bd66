import unittest

from common import NO_PATHS, raised

from deadrules.documents import parse_document
from deadrules.errors import InvalidPath


class AskedTest(unittest.TestCase):
    def setUp(self):
        self.document = parse_document('list.z.a(item.hot(link,b(c)),item,d(e,f(g),h))')
        self.paths = [(), (0,), (0, 0), (0, 1), (0, 1, 0), (1,), (2,), (2, 0), (2, 1), (2, 1, 0), (2, 2)]

    def test_order_of_the_paths(self):
        self.assertEqual(list(self.document), self.paths)
        self.assertEqual(sorted(self.document), self.paths)
        self.assertEqual([path for path in self.document], self.paths)
        self.assertEqual(self.document.size, len(self.paths))

    def test_paths_of_more_than_ten_children(self):
        document = parse_document('a(' + ','.join(['b(c)'] * 12) + ')')
        expected = [()]
        for index in range(12):
            expected += [(index,), (index, 0)]
        self.assertEqual(list(document), expected)

    def test_two_iterations_do_not_disturb_each_other(self):
        self.assertEqual(len([1 for one in self.document for other in self.document]), 121)

    def test_in(self):
        for path in self.paths:
            self.assertIs(path in self.document, True)
        for value in NO_PATHS + [(3,), (0, 2), (1, 0), (0, 0, 0), (0, 1, 1), self.document, 'list', ('list',)]:
            self.assertIs(value in self.document, False)

    def test_true_and_false_are_no_indexes(self):
        document = parse_document('a(b(c,d),e(f))')
        for path in [(True,), (False,), (0, True), (True, 0), (False, False), True, False]:
            self.assertNotIn(path, document)
            for call in [document.kind, document.marks, document.width, document.part]:
                self.assertIs(raised(InvalidPath, call, path).path, path)

    def test_kind(self):
        self.assertEqual([self.document.kind(path) for path in self.paths],
                         ['list', 'item', 'link', 'b', 'c', 'item', 'd', 'e', 'f', 'g', 'h'])

    def test_marks(self):
        found = {path: self.document.marks(path) for path in self.paths if self.document.marks(path) != ()}
        self.assertEqual(found, {(): ('a', 'z'), (0,): ('hot',)})
        self.assertIsInstance(self.document.marks((1,)), tuple)

    def test_width(self):
        self.assertEqual([self.document.width(path) for path in self.paths], [3, 2, 0, 1, 0, 0, 3, 0, 1, 0, 0])

    def test_part(self):
        self.assertEqual([self.document.part(path).text for path in self.paths],
                         [self.document.text, 'item.hot(link,b(c))', 'link', 'b(c)', 'c', 'item', 'd(e,f(g),h)', 'e',
                          'f(g)', 'g', 'h'])
        part = self.document.part((2,))
        self.assertEqual([part.size, list(part)], [5, [(), (0,), (1,), (1, 0), (2,)]])
        self.assertEqual(part, parse_document('d(e,f(g),h)'))

    def test_values_that_are_no_paths(self):
        calls = [self.document.kind, self.document.marks, self.document.width, self.document.part]
        for call in calls:
            for value in NO_PATHS + [(3,), (0, 2), (1, 0), (0, 0, 0), self.document]:
                self.assertIs(raised(InvalidPath, call, value).path, value)

    def test_equal_by_text(self):
        self.assertEqual(self.document, parse_document('list.a.z(item.hot(link,b(c)),item,d(e,f(g),h))'))
        self.assertTrue(parse_document('a.c.b') == parse_document('a.b.c'))
        self.assertFalse(parse_document('a.c.b') != parse_document('a.b.c'))
        for text in ['b', 'a.b', 'a(a)', 'a(b)', 'a(b,c)', 'a(b(c))', 'a(c,b)']:
            self.assertFalse(parse_document('a') == parse_document(text))
            self.assertTrue(parse_document('a') != parse_document(text))

    def test_not_equal_to_other_kinds(self):
        document = parse_document('a')
        for value in ['a', None, 0, 1, True, False, [], ['a'], (), ('a',), {}, b'a', [()], [document], object()]:
            self.assertIs(document == value, False)
            self.assertIs(value == document, False)
            self.assertIs(document != value, True)

    def test_by_name(self):
        document = parse_document('a.m(b,c)')
        self.assertEqual([document.kind(path=()), document.marks(path=()), document.width(path=())], ['a', ('m',), 2])
        self.assertEqual(document.part(path=(1,)).text, 'c')

    def test_text_and_size_cannot_be_set(self):
        for name in ['text', 'size']:
            with self.assertRaises(AttributeError):
                setattr(self.document, name, 1)

    def test_deepest_document(self):
        text = 'a(' * 199 + 'b.m' + ')' * 199
        document = parse_document(text)
        last = (0,) * 199
        self.assertEqual(list(document), [(0,) * depth for depth in range(200)])
        self.assertEqual([document.kind(last), document.marks(last), document.width(last)], ['b', ('m',), 0])
        self.assertEqual(document.part((0,) * 100).text, text[200:-100])


if __name__ == '__main__':
    unittest.main()

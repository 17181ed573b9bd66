import random
import unittest

from common import NO_INTEGERS, NO_NAMES, NO_PATHS, raised

from deadrules.documents import parse_document
from deadrules.errors import InvalidNumber, InvalidPart, InvalidPath, LimitExceeded

NO_MARKS = [None, True, 0, '', 'a', 'ab', b'ab', {}, {'a': 1}, {'a'}, ['a', 'a'], ('a', 'b', 'a'), [''], ['A'], ['a.b'],
            ['abcdefghi'], ['a', None], ('a', 1), [['a']], (('a',),), [{}], ['a', 'b '], [b'a'], [True]]


class EditedTest(unittest.TestCase):
    def setUp(self):
        self.text = 'list.m(item(link,b),c)'
        self.document = parse_document(self.text)
        self.part = parse_document('x.y(z)')

    def tearDown(self):
        self.assertEqual([self.document.text, self.document.size], [self.text, 5])
        self.assertEqual(list(self.document), [(), (0,), (0, 0), (0, 1), (1,)])
        self.assertEqual([self.part.text, list(self.part)], ['x.y(z)', [(), (0,)]])

    def test_inserted_at_each_index(self):
        found = [self.document.inserted((), index, self.part).text for index in range(3)]
        self.assertEqual(found, ['list.m(x.y(z),item(link,b),c)', 'list.m(item(link,b),x.y(z),c)',
                                 'list.m(item(link,b),c,x.y(z))'])
        found = [self.document.inserted((0,), index, self.part).text for index in range(3)]
        self.assertEqual(found, ['list.m(item(x.y(z),link,b),c)', 'list.m(item(link,x.y(z),b),c)',
                                 'list.m(item(link,b,x.y(z)),c)'])
        self.assertEqual(self.document.inserted((0, 1), 0, self.part).text, 'list.m(item(link,b(x.y(z))),c)')
        self.assertEqual(self.document.inserted((1,), 0, self.part).text, 'list.m(item(link,b),c(x.y(z)))')

    def test_inserted_is_a_whole_document(self):
        edited = self.document.inserted((0,), 1, self.part)
        self.assertEqual(list(edited), [(), (0,), (0, 0), (0, 1), (0, 1, 0), (0, 2), (1,)])
        self.assertEqual([edited.size, edited.kind((0, 1)), edited.marks((0, 1)), edited.width((0,))],
                         [7, 'x', ('y',), 3])
        self.assertEqual(edited, parse_document(edited.text))

    def test_inserted_into_itself(self):
        document = parse_document('a(b)')
        self.assertEqual(document.inserted((0,), 0, document).text, 'a(b(a(b)))')
        self.assertEqual(document.text, 'a(b)')

    def test_inserted_with_wrong_arguments(self):
        call = self.document.inserted
        for path in NO_PATHS:
            for index, part in [(0, self.part), (True, None), (-1, 5)]:
                self.assertIs(raised(InvalidPath, call, path, index, part).path, path)
        for index in NO_INTEGERS + [-1, 3, 4, 10 ** 29, -10 ** 29]:
            for part in [self.part, None, 'a']:
                self.assertIs(raised(InvalidNumber, call, (), index, part).value, index)
        self.assertEqual(raised(InvalidNumber, call, (1,), 1, self.part).value, 1)
        for part in [None, True, 0, 'a', 'x.y(z)', b'a', [], [self.part], (), (self.part,), {}, parse_document]:
            self.assertIs(raised(InvalidPart, call, (), 0, part).value, part)

    def test_removed(self):
        found = [self.document.removed(path).text for path in [(0,), (0, 0), (0, 1), (1,)]]
        self.assertEqual(found, ['list.m(c)', 'list.m(item(b),c)', 'list.m(item(link),c)', 'list.m(item(link,b))'])
        document = parse_document('a(b(c))')
        self.assertEqual([document.removed((0,)).text, document.removed((0, 0)).text], ['a', 'a(b)'])
        self.assertEqual(list(document.removed((0,))), [()])

    def test_removed_with_wrong_paths(self):
        for path in NO_PATHS + [(), (2,), (1, 0)]:
            self.assertIs(raised(InvalidPath, self.document.removed, path).path, path)
        self.assertEqual(raised(InvalidPath, parse_document('a').removed, ()).path, ())

    def test_renamed(self):
        found = [self.document.renamed(path, 'abcdefgh').text for path in self.document]
        self.assertEqual(found, ['abcdefgh.m(item(link,b),c)', 'list.m(abcdefgh(link,b),c)', 'list.m(item(abcdefgh,b),c)',
                                 'list.m(item(link,abcdefgh),c)', 'list.m(item(link,b),abcdefgh)'])
        self.assertEqual(self.document.renamed((), 'list'), self.document)

    def test_renamed_with_wrong_arguments(self):
        for path in NO_PATHS:
            for kind in ['a', None, 'A']:
                self.assertIs(raised(InvalidPath, self.document.renamed, path, kind).path, path)
        for kind in NO_NAMES + [self.part]:
            self.assertIs(raised(InvalidPart, self.document.renamed, (0,), kind).value, kind)

    def test_marked(self):
        for marks in [['z', 'a', 'q'], ('q', 'z', 'a')]:
            self.assertEqual(self.document.marked((), marks).text, 'list.a.q.z(item(link,b),c)')
            self.assertEqual(self.document.marked((0, 1), marks).text, 'list.m(item(link,b.a.q.z),c)')
            self.assertEqual(self.document.marked((0, 1), marks).marks((0, 1)), ('a', 'q', 'z'))
        for marks in [[], ()]:
            self.assertEqual(self.document.marked((), marks).text, 'list(item(link,b),c)')
            self.assertEqual(self.document.marked((), marks).marks(()), ())

    def test_marked_with_wrong_arguments(self):
        for path in NO_PATHS:
            for marks in [['a'], None, ['a', 'a']]:
                self.assertIs(raised(InvalidPath, self.document.marked, path, marks).path, path)
        for marks in NO_MARKS + [self.part]:
            self.assertIs(raised(InvalidPart, self.document.marked, (0,), marks).value, marks)

    def test_a_list_that_was_given_is_not_kept(self):
        marks = ['z', 'a']
        edited = self.document.marked((), marks)
        self.assertEqual(marks, ['z', 'a'])
        marks.append('b')
        marks[0] = 'q'
        self.assertEqual([edited.marks(()), edited.text], [('a', 'z'), 'list.a.z(item(link,b),c)'])

    def test_limit_of_nodes(self):
        for text in ['a(' + ','.join(['b'] * 149) + ')', 'a(' * 149 + 'a' + ')' * 149]:
            document = parse_document(text)
            fifty = parse_document('c(' + ','.join(['d'] * 49) + ')')
            for path in [(), (0,), (0,) * 149]:
                if path in document:
                    edited = document.inserted(path, 0, fifty)
                    self.assertEqual([edited.size, len(list(edited))], [200, 200])
                    self.assertEqual(parse_document(edited.text), edited)
                    more = fifty.inserted((), 0, parse_document('e'))
                    self.assertEqual(raised(LimitExceeded, document.inserted, path, 0, more).limit, 200)
                    self.assertEqual(raised(LimitExceeded, edited.inserted, path, 0, parse_document('e')).limit, 200)
            self.assertEqual(document.text, text)

    def test_limit_is_told_last(self):
        full = parse_document('a(' + ','.join(['b'] * 199) + ')')
        self.assertEqual(full.size, 200)
        self.assertEqual(raised(InvalidPath, full.inserted, (200,), 0, full).path, (200,))
        self.assertEqual(raised(InvalidNumber, full.inserted, (), 200, full).value, 200)
        self.assertIs(raised(InvalidNumber, full.inserted, (), True, full).value, True)
        self.assertEqual(raised(InvalidPart, full.inserted, (), 0, 'a').value, 'a')
        self.assertEqual(raised(LimitExceeded, full.inserted, (), 199, full).limit, 200)
        self.assertEqual(full.renamed((), 'c').marked((), ['d']).removed((0,)).size, 199)

    def test_by_name(self):
        document = parse_document('a(b)')
        self.assertEqual(document.inserted(path=(), index=1, part=self.part).text, 'a(b,x.y(z))')
        self.assertEqual(document.removed(path=(0,)).text, 'a')
        self.assertEqual(document.renamed(path=(), kind='c').text, 'c(b)')
        self.assertEqual(document.marked(path=(), marks=['c']).text, 'a.c(b)')

    def test_against_nested_lists(self):
        source = random.Random(2)
        tree = ['a', [], []]
        document = parse_document('a')
        for number in range(400):
            path = source.choice(list(document))
            node = tree
            for index in path:
                node = node[2][index]
            choice = source.randrange(4)
            if choice == 0 and document.size < 60:
                index = source.randint(0, len(node[2]))
                node[2].insert(index, ['x', ['m'], [['y', [], []], ['z', [], []]]])
                document = document.inserted(path, index, parse_document('x.m(y,z)'))
            elif choice == 1 and path != () and number % 3 == 0:
                above = tree
                for index in path[:-1]:
                    above = above[2][index]
                del above[2][path[-1]]
                document = document.removed(path)
            elif choice == 2:
                node[0] = source.choice(['a', 'b', 'c'])
                document = document.renamed(path, node[0])
            elif choice == 3:
                node[1] = sorted(source.sample(['m', 'n', 'o'], source.randrange(4)))
                document = document.marked(path, node[1][::-1])
            self.assertEqual(document.text, written(tree))
            self.assertEqual(list(document), list(parse_document(document.text)))


def written(node):
    text = '.'.join([node[0], *node[1]])
    if node[2]:
        text += '(' + ','.join([written(below) for below in node[2]]) + ')'
    return text


if __name__ == '__main__':
    unittest.main()

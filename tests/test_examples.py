"""The examples of the document, as they stand there."""

import doctest
import pathlib
import unittest

README = pathlib.Path(__file__).resolve().parent.parent / 'README.md'


class ExamplesTest(unittest.TestCase):
    def test_documents(self):
        from deadrules.documents import parse_document
        d = parse_document('list(item.new.hot,item(link))')
        self.assertEqual(
            [d.text, d.size, [path for path in d], d.marks((0,)), d.removed((1, 0)).text, (2,) in d],
            ['list(item.hot.new,item(link))', 4, [(), (0,), (1,), (1, 0)], ('hot', 'new'), 'list(item.hot.new,item)',
             False])

    def test_grammars(self):
        from deadrules.documents import parse_document
        from deadrules.grammars import parse_grammar
        g = parse_grammar('list : item+\nitem hot? : (link | list)?')
        self.assertEqual(
            [g.kinds, g.fits('list', ['item', 'item']), g.least('list'), [d.text for d in g.documents(3)]],
            [['list', 'item', 'link'], True, 2,
             ['list(item)', 'list(item.hot)', 'list(item(link))', 'list(item,item)', 'list(item,item.hot)',
              'list(item.hot(link))', 'list(item.hot,item)', 'list(item.hot,item.hot)']])
        self.assertEqual(g.first_wrong(parse_document('list(item.new)')), (0,))

    def test_readme(self):
        result = doctest.testfile(str(README), module_relative=False)
        self.assertEqual(result.failed, 0)
        self.assertGreater(result.attempted, 0)


if __name__ == '__main__':
    unittest.main()

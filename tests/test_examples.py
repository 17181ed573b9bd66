"""The examples of the document, as they stand there."""

import doctest
import pathlib
import unittest

README = pathlib.Path(__file__).resolve().parent.parent / 'README.md'


class ExamplesTest(unittest.TestCase):
    def test_documents(self):
        from deadrules.documents import parse_document
        d = parse_document('list(item.new.hot,item(link))')
        self.assertEqual(
            [d.text, d.size, [path for path in d], d.marks((0,)), d.removed((1, 0)).text, (2,) in d],
            ['list(item.hot.new,item(link))', 4, [(), (0,), (1,), (1, 0)], ('hot', 'new'), 'list(item.hot.new,item)',
             False])

    def test_grammars(self):
        from deadrules.documents import parse_document
        from deadrules.grammars import parse_grammar
        g = parse_grammar('list : item+\nitem hot? : (link | list)?')
        self.assertEqual(
            [g.kinds, g.fits('list', ['item', 'item']), g.least('list'), [d.text for d in g.documents(3)]],
            [['list', 'item', 'link'], True, 2,
             ['list(item)', 'list(item.hot)', 'list(item(link))', 'list(item,item)', 'list(item,item.hot)',
              'list(item.hot(link))', 'list(item.hot,item)', 'list(item.hot,item.hot)']])
        self.assertEqual(g.first_wrong(parse_document('list(item.new)')), (0,))

    def test_selectors(self):
        from deadrules.documents import parse_document
        from deadrules.selectors import parse_selector
        d = parse_document('list(item.hot(link),item,item)')
        self.assertEqual(
            [parse_selector(text).found(d)
             for text in ['list > item:not(.hot)', 'item:has(> link) ~ *:last', ':nth(2,1)', 'list link']],
            [[(1,), (2,)], [(2,)], [(), (0,), (0, 0), (2,)], [(0, 0)]])
        self.assertEqual([parse_selector('*.hot>item:has( link )').text, parse_selector('a.b c:first').weight],
                         ['.hot > item:has(link)', (2, 2)])

    def test_styles(self):
        from deadrules.documents import parse_document
        from deadrules.sheets import parse_sheet
        from deadrules.styles import styles, winners
        s = parse_sheet('var tone\nhand size big\nown box none\nlist { tone: red; size: big }\n'
                        'item.hot { box: $tone or blue }\nlayer 1 item { box: inherit; size!: small }')
        d = parse_document('list(item.hot(link))')
        self.assertEqual(
            [styles(d, s), winners(d, s, (0,)), s.pieces()],
            [[((), ('red', 'big', 'none')), ((0,), ('red', 'small', 'none')), ((0, 0), ('red', 'small', 'none'))],
             (None, (2, 1), (2, 0)), [(0, 0), (0, 1), (1, 0), (2, 0), (2, 1)]])

    def test_a_rule_of_a_kind_called_layer(self):
        from deadrules.sheets import parse_sheet
        s = parse_sheet('own p y\nlayer > a { p: x }')
        self.assertEqual(s.rules, [(0, ('layer > a',), (('p', 'x', False),))])

    def test_papers(self):
        from deadrules.grammars import parse_grammar
        from deadrules.sheets import parse_sheet
        from deadrules.papers import paper
        self.assertEqual(
            paper(parse_grammar('a : b*'), parse_sheet('own p x\nb + b { p: y }')),
            ([(('a', (), (), ()), 1), (('b', (), (), ()), 1)],
             [((('a', (), (), ()), 1, True, (), (), (), (), (), (), (None,)), 0),
              ((('b', (), (), ()), 1, False, (), (), (), (), (), (), (None,)), 2),
              ((('b', (), (), ()), 1, True, (), (), (), (), (), (), (None,)), 1),
              ((('b', (), (), ()), 2, False, (), (), (), (), ((0, 0),), (), (None,)), 3),
              ((('b', (), (), ()), 2, True, (), (), (), (), ((0, 0),), (), (None,)), 2)]))

    def test_all_documents_of_a_grammar(self):
        from deadrules.grammars import parse_grammar
        from deadrules.sheets import parse_sheet
        from deadrules.answers import can_match, dead_rules
        from deadrules.least import conditions, least_pieces, least_sheet
        from deadrules.comparing import parting
        from deadrules.shorter import shorter
        g = parse_grammar('list : item+\nitem hot? : (link | list)?')
        s = parse_sheet('own box none\nlist > item { box: thin }\nitem { box: thin }\nlink item { box: red }')
        self.assertEqual([can_match(g, s, 0)[0].size, can_match(g, s, 0)[1], dead_rules(g, s), conditions(g, s)],
                         [2, (0,), [2], [(((0, 0), (1, 0)), ((0, 0), (1, 0)), False)]])
        self.assertEqual(
            [least_pieces(g, s), parting(g, s, least_sheet(g, s)), shorter(g, s).rules],
            [[(0, 0)], None, [(0, ('item', 'item'), (('box', 'thin', False),)), (0, ('link > item',), (('box', 'red', False),))]])

    def test_sittings(self):
        from deadrules.documents import parse_document
        from deadrules.grammars import parse_grammar
        from deadrules.sheets import parse_sheet
        from deadrules.sittings import Sitting, apply_edits
        g = parse_grammar('list : item+\nitem hot? :')
        s = Sitting(g, parse_sheet('own box none\nitem + item.hot { box: red }'), parse_document('list(item,item)'))
        self.assertEqual(
            [apply_edits(s, [('put', (), 0, 'item.hot'), ('mark', (2,), ['hot'])]), s.changed(), s.touched(), len(s)],
            ['list(item.hot,item,item.hot)', [(2,)], [(0,), (1,), (2,)], 1])

    def test_readme(self):
        result = doctest.testfile(str(README), module_relative=False)
        self.assertEqual(result.failed, 0)
        self.assertGreater(result.attempted, 0)


if __name__ == '__main__':
    unittest.main()

"""Sheets with some of their pieces alone."""

import itertools
import random
import unittest

import drawn
import oracle
from common import raised
from deadrules.errors import InvalidPiece
from deadrules.sheets import parse_sheet

TEXT = 'var v\nown p x\nhand q y\na, b { v: x; p: $v }\nlayer 2 .x { q!: z }\n* { q: inherit; p: y; v: w }'

NO_PIECES = [None, True, False, 0, 1, '', 'a', '00', b'', [], [0, 0], [[0, 0]], {}, {0: 0}, set(), (), (0,), (0, 0, 0),
             (0, 2), (1, 1),
             (2, 3), (3, 0), (-1, 0), (0, -1), (0, None), (None, 0), ('0', '0'), (True, 0), (0, True), (0, False),
             (False, 0), ((0, 0),),
             ((0, 0), 0), (0, [0]), ([0], 0), (10 ** 29, 0), (0, 10 ** 29), ({}, 0), (0,) * 20000]


class OnlyTest(unittest.TestCase):
    def setUp(self):
        self.sheet = parse_sheet(TEXT)

    def test_some(self):
        self.assertEqual(self.sheet.only([(0, 1), (2, 0), (2, 2)]).text,
                         'var v\nown p x\nhand q y\na, b { p: $v }\n* { q: inherit; v: w }')
        self.assertEqual(self.sheet.only([(1, 0)]).text, 'var v\nown p x\nhand q y\nlayer 2 .x { q!: z }')

    def test_all_and_none(self):
        for whole in [self.sheet.pieces(), tuple(self.sheet.pieces())]:
            self.assertTrue(self.sheet.only(whole) == self.sheet)
        for nothing in [[], ()]:
            sheet = self.sheet.only(nothing)
            self.assertEqual([sheet.text, sheet.names, sheet.rules, sheet.pieces()],
                             ['var v\nown p x\nhand q y', ['v', 'p', 'q'], [], []])

    def test_any_order(self):
        pieces = self.sheet.pieces()
        for many in range(4):
            for some in itertools.combinations(pieces, many):
                wanted = self.sheet.only(list(some)).text
                for row in itertools.permutations(some):
                    self.assertEqual(self.sheet.only(row).text, wanted)
                    self.assertEqual(self.sheet.only(list(row)).text, wanted)

    def test_again(self):
        sheet = self.sheet.only([(2, 1), (2, 2), (0, 0)])
        self.assertEqual(sheet.pieces(), [(0, 0), (1, 0), (1, 1)])
        self.assertEqual(sheet.only([(1, 1)]).text, 'var v\nown p x\nhand q y\n* { v: w }')
        self.assertEqual(raised(InvalidPiece, sheet.only, [(2, 1)]).value, (2, 1))

    def test_nothing_changes(self):
        pieces = [(2, 2), (0, 0)]
        sheet = self.sheet.only(pieces)
        self.assertEqual(pieces, [(2, 2), (0, 0)])
        pieces.append((1, 0))
        self.assertEqual(sheet.pieces(), [(0, 0), (1, 0)])
        self.assertEqual(self.sheet.text, TEXT)

    def test_drawn(self):
        source = random.Random(12)
        for _ in range(500):
            lines, rules = drawn.sheet(source)
            sheet = parse_sheet(oracle.sheet_text((lines, rules)))
            kept = source.sample(sheet.pieces(), source.randrange(len(sheet.pieces()) + 1))
            left = []
            for at, (layer, selectors, declarations) in enumerate(rules):
                some = [one for index, one in enumerate(declarations) if (at, index) in kept]
                if some:
                    left.append((layer, selectors, some))
            found = sheet.only(source.choice([list, tuple])(kept))
            self.assertEqual(found.text, oracle.sheet_text((lines, left)))
            self.assertTrue(found == parse_sheet(found.text))
            self.assertEqual(found.rules, parse_sheet(found.text).rules)
            self.assertEqual(found.names, sheet.names)

    def test_no_piece(self):
        for value in NO_PIECES:
            for pieces in [[value], [(0, 0), value], [value, (0, 0)], [(2, 0), value, (9, 9)], (value, value)]:
                self.assertIs(raised(InvalidPiece, self.sheet.only, pieces).value, value)

    def test_twice(self):
        again = tuple([0, 0])
        self.assertIs(raised(InvalidPiece, self.sheet.only, [(0, 0), (1, 0), again, (1, 0)]).value, again)
        self.assertEqual(raised(InvalidPiece, self.sheet.only, [(0, 0), (1, 0), (1, 0), (0, 0)]).value, (1, 0))
        self.assertEqual(raised(InvalidPiece, self.sheet.only, self.sheet.pieces() * 3000).value, (0, 0))

    def test_no_list(self):
        for value in [None, True, False, 0, 1, '', 'ab', b'', {}, {(0, 0): 1}, set(), {(0, 0)}]:
            self.assertIs(raised(InvalidPiece, self.sheet.only, value).value, value)
        self.assertIs(raised(InvalidPiece, self.sheet.only, pieces=None).value, None)

    def test_a_piece_is_no_list_of_pieces(self):
        self.assertEqual(raised(InvalidPiece, self.sheet.only, (0, 0)).value, 0)


if __name__ == '__main__':
    unittest.main()

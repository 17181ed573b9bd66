"""Answers beside an own search through all small documents."""

import random
import unittest

import drawn
import oracle
import search
from common import NO_INTEGERS, raised
from deadrules.answers import (
    all_values, can_have, can_match, can_meet, can_win, dead_rules, died, idle_pieces)
from deadrules.documents import Document
from deadrules.errors import InvalidName, InvalidNumber, InvalidPart
from deadrules.grammars import parse_grammar
from deadrules.sheets import parse_sheet

NO_VALUES = [True, False, 0, 1, -1, 10 ** 29, '', 'x y', 'inherit', '$v', 'Red', 'none at all', b'red', [], ['red'], (),
             ('red',), {}, {'red': 1}, set(), (None,)]


class DrawnAnswersTest(unittest.TestCase):
    def draw(self, source, rules=4):
        """Return a drawn grammar and sheet, the form of the sheet, what is seen in small documents, and their size."""
        while True:
            grammar = parse_grammar('\n'.join(drawn.grammar(source)))
            form = drawn.sheet(source, rules)
            documents, most = search.listed(grammar, 5, 25)
            # Of the grammars without small documents a few are enough.
            if documents or source.random() < 0.1:
                return grammar, parse_sheet(oracle.sheet_text(form)), form, search.all_seen(documents, form), most

    def check(self, grammar, form, answer, rows, most, shows):
        """Check an answer beside the rows of what is seen; `shows` tells of such a row whether it shows what is asked."""
        def shown(document, path):
            return any(shows(row) for row in search.seen(document, form) if row.path == path)
        sizes = [row.document.size for row in rows if shows(row)]
        search.check_answer(self, grammar, answer, sizes, most, shown)
        return answer is not None

    def test_rules(self):
        source = random.Random(91)
        found = 0
        for _ in range(1200):
            grammar, sheet, form, rows, most = self.draw(source)
            rules = range(len(form[1]))
            some = [self.check(grammar, form, can_match(grammar, sheet, rule), rows, most,
                               lambda row: rule in row.matching) for rule in rules]
            self.assertEqual(dead_rules(grammar, sheet), [rule for rule in rules if not some[rule]])
            found += sum(some)
        self.assertGreater(found, 900)

    def test_meeting(self):
        source = random.Random(92)
        found = 0
        for _ in range(500):
            grammar, sheet, form, rows, most = self.draw(source)
            for rule in range(len(form[1])):
                for other in range(len(form[1])):
                    answer = can_meet(grammar, sheet, rule, other)
                    self.check(grammar, form, answer, rows, most, lambda row: {rule, other} <= set(row.matching))
                    exchanged = can_meet(grammar, sheet, other, rule)
                    self.assertEqual(answer and answer[0].size, exchanged and exchanged[0].size)
                    found += answer is not None and rule != other
                alone, again = can_match(grammar, sheet, rule), can_meet(grammar, sheet, rule, rule)
                self.assertEqual(alone and alone[0].size, again and again[0].size)
        self.assertGreater(found, 300)

    def test_winning(self):
        source = random.Random(93)
        found, idle = 0, 0
        for _ in range(800):
            grammar, sheet, form, rows, most = self.draw(source, 3)
            winning = {}
            for rule in range(len(form[1])):
                for at, name in enumerate(sheet.names):
                    winning[rule, name] = self.check(
                        grammar, form, can_win(grammar, sheet, rule, name), rows, most,
                        lambda row: row.winners[at] is not None and row.winners[at][0] == rule)
            pieces = [piece for piece in sheet.pieces()
                      if not winning[piece[0], sheet.rules[piece[0]][2][piece[1]][0]]]
            self.assertEqual(idle_pieces(grammar, sheet), pieces)
            self.assertFalse(set(pieces) & {piece for row in rows for piece in row.winners})
            found += sum(winning.values())
            idle += len(pieces)
        self.assertGreater(found, 600)
        self.assertGreater(idle, 300)

    def test_values(self):
        source = random.Random(94)
        found = 0
        for _ in range(400):
            grammar, sheet, form, rows, most = self.draw(source)
            for kind in grammar.kinds:
                for at, name in enumerate(sheet.names):
                    told = all_values(grammar, sheet, kind, name)
                    words = told[told[:1] == [None]:]
                    self.assertEqual(words, sorted(set(words)))
                    self.assertNotIn(None, words)
                    for value in [None, *drawn.WORDS]:
                        answer = can_have(grammar, sheet, kind, name, value)
                        self.assertEqual(answer is not None, value in told)
                        found += self.check(grammar, form, answer, rows, most,
                                            lambda row: row.kind == kind and row.style[at] == value)
                    self.assertLessEqual(set(told), {None, *drawn.WORDS})
        self.assertGreater(found, 1000)

    def test_died(self):
        source = random.Random(95)
        found = 0
        for _ in range(400):
            old, sheet = self.draw(source)[:2]
            new = parse_grammar('\n'.join(drawn.grammar(source)))
            told = died(old, new, sheet)
            self.assertEqual(told, [rule for rule in dead_rules(new, sheet) if rule not in dead_rules(old, sheet)])
            self.assertEqual(died(old, old, sheet), [])
            found += len(told)
        self.assertGreater(found, 100)


class KnownAnswersTest(unittest.TestCase):
    def test_a_document(self):
        grammar = parse_grammar('a : b*\nb x? : c')
        sheet = parse_sheet('own p n\n.x ~ b c { p: m }\nd { p: m }\nc, .x { p: m }')
        document, path = can_match(grammar, sheet, 0)
        self.assertIs(document.__class__, Document)
        self.assertEqual((document.text, path), ('a(b.x(c),b(c))', (1, 0)))
        self.assertEqual([can_match(grammar, sheet, rule) for rule in [1]], [None])
        self.assertEqual(can_meet(grammar, sheet, 0, 2)[0].size, 5)
        self.assertIsNone(can_meet(grammar, sheet, 2, 1))
        self.assertEqual(dead_rules(grammar, sheet), [1])
        self.assertEqual(idle_pieces(grammar, sheet), [(1, 0)])
        self.assertEqual(died(grammar, parse_grammar('a : b*\nb : c'), sheet), [0])
        self.assertEqual(died(grammar, parse_grammar('a : d'), sheet), [0, 2])

    def test_values(self):
        grammar = parse_grammar('a : b\nb x? : b?')
        sheet = parse_sheet('var v\nhand h 9\nown o nn\n.x { v: zz; h: $v; o: $v or aa }\nb { h: 0 }\n.x b { o: inherit }')
        self.assertEqual([all_values(grammar, sheet, 'a', name) for name in 'vho'], [[None], ['9'], ['nn']])
        self.assertEqual([all_values(grammar, sheet, 'b', name) for name in 'vho'],
                         [[None, 'zz'], ['0', 'zz'], ['nn', 'zz']])
        document, path = can_have(grammar, sheet, 'b', 'v', None)
        self.assertEqual((document.text, path), ('a(b)', (0,)))
        self.assertEqual(can_have(grammar, sheet, 'b', 'o', 'zz')[0].text, 'a(b.x)')
        for value in NO_VALUES:
            self.assertIsNone(can_have(grammar, sheet, 'b', 'v', value))
            self.assertIsNone(can_have(grammar, sheet, 'b', 'o', value))
        self.assertIsNone(can_have(grammar, sheet, 'b', 'o', None))

    def test_kinds_that_cannot_occur(self):
        grammar = parse_grammar('a : b?\nb : b\nc x? :')
        sheet = parse_sheet('own p n\n* { p: m }\nb, c { p: o }')
        for kind in 'bc':
            self.assertEqual(all_values(grammar, sheet, kind, 'p'), [])
            self.assertIsNone(can_have(grammar, sheet, kind, 'p', 'm'))
        self.assertEqual(dead_rules(grammar, sheet), [1])

    def test_grammars_without_documents(self):
        sheet = parse_sheet('var v\nown p n\n* { p: m; v: x }\na { p: m }')
        for text in ['a : a', 'a : b c\nb : a?', 'a : a b']:
            grammar = parse_grammar(text)
            if grammar.least('a') is not None:
                continue
            self.assertEqual(dead_rules(grammar, sheet), [0, 1])
            self.assertEqual(idle_pieces(grammar, sheet), [(0, 0), (0, 1), (1, 0)])
            self.assertEqual([can_match(grammar, sheet, 0), can_meet(grammar, sheet, 0, 1), can_win(grammar, sheet, 0, 'v'),
                              can_have(grammar, sheet, 'a', 'p', 'n'), can_have(grammar, sheet, 'a', 'v', None)], [None] * 5)
            self.assertEqual(all_values(grammar, sheet, 'a', 'v'), [])
            self.assertEqual(died(parse_grammar('a :'), grammar, sheet), [0, 1])
            self.assertEqual(died(grammar, parse_grammar('a :'), sheet), [])

    def test_sheets_without_rules(self):
        grammar = parse_grammar('a : b')
        self.assertEqual([dead_rules(grammar, parse_sheet('')), idle_pieces(grammar, parse_sheet(''))], [[], []])
        self.assertEqual(all_values(grammar, parse_sheet('hand p x\nvar v'), 'b', 'p'), ['x'])
        self.assertEqual(all_values(grammar, parse_sheet('hand p x\nvar v'), 'b', 'v'), [None])


class RefusedTest(unittest.TestCase):
    GRAMMAR = parse_grammar('a : b*')
    SHEET = parse_sheet('var v\nown p n\na { p: m }\nb { v: m }')
    NO_RULES = [*NO_INTEGERS, -1, 2, 10 ** 29, -10 ** 29]
    NO_PROPERTIES = [None, True, 0, '', 'q', 'V', 'p ', 'a', b'p', [], ['p'], (), ('p',), {}, {'p': 1}, set()]
    NO_KINDS = [None, True, 0, '', 'c', 'A', 'a ', 'v', b'a', [], ['a'], (), ('a',), {}, {'a': 1}, set()]

    def refused(self, kind, field, wrong, call, *arguments):
        self.assertIs(getattr(raised(kind, call, self.GRAMMAR, self.SHEET, *arguments), field), wrong)

    def test_rules(self):
        for rule in self.NO_RULES:
            self.refused(InvalidNumber, 'value', rule, can_match, rule)
            self.refused(InvalidNumber, 'value', rule, can_meet, rule, 0)
            self.refused(InvalidNumber, 'value', rule, can_meet, 1, rule)
            self.refused(InvalidNumber, 'value', rule, can_win, rule, 'p')

    def test_properties(self):
        for name in self.NO_PROPERTIES:
            self.refused(InvalidName, 'name', name, can_win, 0, name)
            self.refused(InvalidName, 'name', name, can_have, 'a', name, 'm')
            self.refused(InvalidName, 'name', name, all_values, 'a', name)

    def test_kinds(self):
        for kind in self.NO_KINDS:
            self.refused(InvalidPart, 'value', kind, can_have, kind, 'p', 'm')
            self.refused(InvalidPart, 'value', kind, all_values, kind, 'p')

    def test_the_leftmost(self):
        for rule in self.NO_RULES:
            for other in self.NO_RULES[::3]:
                self.refused(InvalidNumber, 'value', rule, can_meet, rule, other)
            for name in self.NO_PROPERTIES[::3]:
                self.refused(InvalidNumber, 'value', rule, can_win, rule, name)
        for kind in self.NO_KINDS:
            for name in self.NO_PROPERTIES[::3]:
                self.refused(InvalidPart, 'value', kind, can_have, kind, name, 5)
                self.refused(InvalidPart, 'value', kind, all_values, kind, name)

    def test_no_rules_and_no_properties(self):
        sheet = parse_sheet('')
        self.assertEqual(raised(InvalidNumber, can_match, self.GRAMMAR, sheet, 0).value, 0)
        self.assertEqual(raised(InvalidName, all_values, self.GRAMMAR, sheet, 'a', 'p').name, 'p')

    def test_they_come_before_the_limits(self):
        # 2 ** 12 and more states: which of twelve ancestors have the mark.
        grammar = parse_grammar('a p? : a?')
        sheet = parse_sheet('own p n\n.p' + ' > *' * 10 + ' > a { p: m }')
        self.assertRaises(OverflowError, can_match, grammar, sheet, 0)
        self.assertEqual(raised(InvalidNumber, can_match, grammar, sheet, 1).value, 1)
        self.assertEqual(raised(InvalidNumber, can_meet, grammar, sheet, 0, 1).value, 1)
        self.assertEqual(raised(InvalidName, can_win, grammar, sheet, 0, 'q').name, 'q')
        self.assertEqual(raised(InvalidPart, can_have, grammar, sheet, 'b', 'p', 'm').value, 'b')
        self.assertEqual(raised(InvalidName, all_values, grammar, sheet, 'a', 'q').name, 'q')
        self.assertRaises(OverflowError, can_have, grammar, sheet, 'a', 'p', 5)


if __name__ == '__main__':
    unittest.main()

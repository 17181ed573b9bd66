"""Wider grammars, and grammars without documents."""

import random
import unittest

import drawn
import oracle
from deadrules.answers import all_values, can_have, can_match, can_meet, can_win, dead_rules, died, idle_pieces
from deadrules.comparing import parting, parting_of
from deadrules.errors import LimitExceeded
from deadrules.grammars import parse_grammar
from deadrules.least import check_kept, conditions, least_pieces, needed
from deadrules.papers import paper
from deadrules.sheets import parse_sheet
from deadrules.shorter import moves, shorter


def widened(source, lines):
    """Return the lines of a grammar that has all documents of one, and mostly more."""
    found = []
    for line in lines:
        head, _, model = line.partition(':')
        words = [word if source.random() < 0.6 or word.endswith('?') or at == 0 else word + '?'
                 for at, word in enumerate(head.split())]
        words += ['z?'] * (source.random() < 0.2)
        model = source.choice([model, f'({model})?', f'({model})*', f'{model} | b', f'{model} |'])
        found.append(' '.join([*words, ':', model]))
    return found


class WiderTest(unittest.TestCase):
    def not_greater(self, narrow, wide):
        """Check that an answer for a wider grammar is there, and not greater."""
        if narrow is not None:
            self.assertIsNotNone(wide)
            self.assertLessEqual(wide[0].size, narrow[0].size)

    def test_drawn(self):
        source = random.Random(151)
        some, more = 0, 0
        for _ in range(500):
            lines = drawn.grammar(source)
            narrow, wide = parse_grammar('\n'.join(lines)), parse_grammar('\n'.join(widened(source, lines)))
            form = drawn.sheet(source, 3)
            sheet = parse_sheet(oracle.sheet_text(form))
            rules = range(len(sheet.rules))
            try:
                paper(wide, sheet)
            except LimitExceeded:
                continue
            for rule in rules:
                found = can_match(narrow, sheet, rule)
                self.not_greater(found, can_match(wide, sheet, rule))
                some += found is not None
                self.not_greater(can_meet(narrow, sheet, 0, rule), can_meet(wide, sheet, 0, rule))
                for name in sheet.names:
                    self.not_greater(can_win(narrow, sheet, rule, name), can_win(wide, sheet, rule, name))
            for kind in narrow.kinds:
                for name in sheet.names:
                    values = all_values(narrow, sheet, kind, name)
                    self.assertLessEqual(set(values), set(all_values(wide, sheet, kind, name)))
                    for value in values:
                        self.not_greater(can_have(narrow, sheet, kind, name, value), can_have(wide, sheet, kind, name, value))
            self.assertEqual(died(narrow, wide, sheet), [])
            gone = [rule for rule in dead_rules(narrow, sheet) if rule not in dead_rules(wide, sheet)]
            self.assertEqual(died(wide, narrow, sheet), gone)
            more += bool(gone)
            self.assertLessEqual(set(idle_pieces(wide, sheet)), set(idle_pieces(narrow, sheet)))
            self.assertLessEqual(set(conditions(narrow, sheet)), set(conditions(wide, sheet)))
            kept = least_pieces(wide, sheet)
            self.assertLessEqual(len(least_pieces(narrow, sheet)), len(kept))
            self.assertIs(check_kept(narrow, sheet, kept), True)
        self.assertGreater(some, 300)
        self.assertGreater(more, 30)


class WithoutDocumentsTest(unittest.TestCase):
    def test_nothing_can_occur(self):
        source = random.Random(152)
        for _ in range(80):
            text = source.choice(['a : a', 'a : b\nb : a c', 'a x? : b+\nb : b', 'a : (a | b) c\nb : a', 'a : c b\nb : b*  b\nc x? :'])
            grammar = parse_grammar(text)
            self.assertIsNone(grammar.least('a'))
            form, other = drawn.sheet(source, 4), None
            other = (form[0], [drawn.rule(source, form[0]) for _ in range(3)])
            sheet, two = parse_sheet(oracle.sheet_text(form)), parse_sheet(oracle.sheet_text(other))
            self.assertEqual(paper(grammar, sheet)[1], [])
            for rule in range(len(sheet.rules)):
                self.assertIsNone(can_match(grammar, sheet, rule))
                self.assertIsNone(can_meet(grammar, sheet, rule, 0))
                for name in sheet.names:
                    self.assertIsNone(can_win(grammar, sheet, rule, name))
            for kind in grammar.kinds:
                for name in sheet.names:
                    self.assertEqual(all_values(grammar, sheet, kind, name), [])
                    self.assertIsNone(can_have(grammar, sheet, kind, name, None))
            self.assertEqual(dead_rules(grammar, sheet), list(range(len(sheet.rules))))
            self.assertEqual(idle_pieces(grammar, sheet), sheet.pieces())
            self.assertEqual(conditions(grammar, sheet), [])
            self.assertEqual(least_pieces(grammar, sheet), [])
            self.assertEqual([needed(grammar, sheet, piece) for piece in sheet.pieces()], [None] * len(sheet.pieces()))
            self.assertIs(check_kept(grammar, sheet, ()), True)
            self.assertIsNone(parting(grammar, sheet, two))
            self.assertIsNone(parting_of(grammar, sheet, two, sheet.names[0]))
            self.assertEqual(moves(shorter(grammar, sheet)), [])


if __name__ == '__main__':
    unittest.main()

"""Calls by position and by the names of the interface, and results that hold on to nothing."""

import itertools
import unittest

from deadrules import answers, least, papers
from deadrules.documents import parse_document
from deadrules.grammars import parse_grammar
from deadrules.sheets import parse_sheet

GRAMMAR = parse_grammar('a x? : b*\nb x? : b?')
NARROW = parse_grammar('a : b*\nb : b?')
SHEET = parse_sheet('var v\nown p n\n.x b { p: m; v: 1 }\nb + b { p: inherit }\nc { p: o }\na:has(> .x) { p: n }')
DOCUMENT = parse_document('a.x(b,b.x(b))')
PAPER = papers.paper(GRAMMAR, SHEET)

# Each function with its arguments by their names, in the order of the interface.
CALLS = [
    (answers.can_match, {'grammar': GRAMMAR, 'sheet': SHEET, 'rule': 1}),
    (answers.can_meet, {'grammar': GRAMMAR, 'sheet': SHEET, 'rule': 0, 'other': 1}),
    (answers.can_win, {'grammar': GRAMMAR, 'sheet': SHEET, 'rule': 1, 'name': 'p'}),
    (answers.can_have, {'grammar': GRAMMAR, 'sheet': SHEET, 'kind': 'b', 'name': 'v', 'value': '1'}),
    (answers.all_values, {'grammar': GRAMMAR, 'sheet': SHEET, 'kind': 'b', 'name': 'p'}),
    (answers.dead_rules, {'grammar': GRAMMAR, 'sheet': SHEET}),
    (answers.idle_pieces, {'grammar': GRAMMAR, 'sheet': SHEET}),
    (answers.died, {'old': GRAMMAR, 'new': NARROW, 'sheet': SHEET}),
    (papers.state, {'sheet': SHEET, 'document': DOCUMENT, 'path': (1,)}),
    (papers.paper, {'grammar': GRAMMAR, 'sheet': SHEET}),
    (papers.check_paper, {'grammar': GRAMMAR, 'sheet': SHEET, 'value': PAPER}),
    (papers.denied, {'grammar': GRAMMAR, 'sheet': SHEET, 'value': PAPER}),
    (least.conditions, {'grammar': GRAMMAR, 'sheet': SHEET}),
    (least.least_pieces, {'grammar': GRAMMAR, 'sheet': SHEET}),
    (least.least_sheet, {'grammar': GRAMMAR, 'sheet': SHEET}),
    (least.needed, {'grammar': GRAMMAR, 'sheet': SHEET, 'piece': (0, 0)}),
    (least.check_kept, {'grammar': GRAMMAR, 'sheet': SHEET, 'pieces': [(0, 0), (0, 1)]}),
]


def written(value):
    """Return a value in which documents and sheets are replaced by their texts."""
    if isinstance(value, (list, tuple)):
        return value.__class__(map(written, value))
    return (value.__class__, value.text) if hasattr(value, 'text') else value


def spoil(value):
    """Empty all lists in a value."""
    for one in value if isinstance(value, (list, tuple)) else []:
        spoil(one)
    if isinstance(value, list):
        value.clear()


class CallsTest(unittest.TestCase):
    def test_by_position_and_by_name(self):
        for call, arguments in CALLS:
            wanted = written(call(*arguments.values()))
            self.assertNotIn(wanted, (None, [], ()), call)
            for names in itertools.permutations(arguments):
                self.assertEqual(written(call(**{name: arguments[name] for name in names})), wanted, call)
            for many in range(len(arguments)):
                names = list(arguments)
                rest = {name: arguments[name] for name in names[many:]}
                self.assertEqual(written(call(*[arguments[name] for name in names[:many]], **rest)), wanted, call)

    def test_results_are_new(self):
        for call, arguments in CALLS:
            wanted = written(call(**arguments))
            given = written(list(arguments.values()))
            spoil(call(**arguments))
            self.assertEqual(written(call(**arguments)), wanted, call)
            # No call changes what it is given.
            self.assertEqual(written(list(arguments.values())), given, call)

    def test_results_do_not_hold_on_to_what_was_given(self):
        values, states = list(PAPER[0]), list(PAPER[1])
        self.assertIs(papers.check_paper(GRAMMAR, SHEET, (values, states)), True)
        states.pop()
        self.assertIs(papers.check_paper(GRAMMAR, SHEET, (values, states)), False)
        kept = [(0, 0), (0, 1)]
        before = least.check_kept(GRAMMAR, SHEET, kept)
        kept.clear()
        self.assertNotEqual(before, least.check_kept(GRAMMAR, SHEET, kept))

    def test_the_same_again(self):
        for call, arguments in CALLS:
            fresh = {name: parse_grammar(value.text) if value in (GRAMMAR, NARROW) else value
                     for name, value in arguments.items()}
            if fresh.get('sheet') is not None:
                fresh['sheet'] = parse_sheet(SHEET.text)
            self.assertEqual(written(call(**fresh)), written(call(**arguments)), call)


if __name__ == '__main__':
    unittest.main()

"""Reading many grammars: the answers, and how much is done for one of them."""

import itertools
import unittest

from common import calls
from deadrules.grammars import parse_grammar

KINDS = 'abcdefgh'
CHAIN = '\n'.join(f'{kind} : ' + ' '.join([below] * 12) for kind, below in itertools.pairwise(KINDS))


class WorkTest(unittest.TestCase):
    def test_a_hundred_are_read(self):
        for _ in range(100):
            grammar = parse_grammar(CHAIN)
            self.assertEqual(grammar.least('a'), 39089245)
            self.assertEqual(grammar.kinds, list(KINDS))

    def test_a_hundred_with_a_further_line(self):
        for _ in range(100):
            self.assertEqual([parse_grammar(CHAIN + '\nh : a').least(kind) for kind in 'ah'], [None, None])
            self.assertEqual([parse_grammar(CHAIN + '\nh : a?').least(kind) for kind in 'ah'], [39089245, 1])

    def test_all_sizes(self):
        wanted = [(12 ** many - 1) // 11 for many in range(8, 0, -1)]
        for rows in [CHAIN.split('\n'), CHAIN.split('\n')[::-1]]:
            grammar = parse_grammar('\n'.join(rows))
            self.assertEqual([grammar.least(kind) for kind in KINDS], wanted)

    def test_the_work_for_one(self):
        rows = CHAIN.split('\n')
        brackets = '\n'.join(f'{row.replace(" : ", " : (")})+' for row in rows)
        for text in [CHAIN, CHAIN + '\nh : a', CHAIN + '\nh : a?', '\n'.join(rows[::-1]),
                     '\n'.join(rows[1::2] + rows[::2]), brackets]:
            self.assertLess(calls(lambda: parse_grammar(text)), 6000, text)

    def test_choices(self):
        # Each kind can stand for each other one: all have to be looked at again.
        rows = [f'{kind} : ' + ' | '.join(f'{one} {one}' for one in KINDS[:6] if one != kind) for kind in KINDS[:5]]
        text = '\n'.join([*rows, 'f : g g', 'g : h h', 'h :'])
        grammar = parse_grammar(text)
        self.assertEqual([grammar.least(kind) for kind in KINDS], [15, 15, 15, 15, 15, 7, 3, 1])
        self.assertLess(calls(lambda: parse_grammar(text)), 6000)


if __name__ == '__main__':
    unittest.main()

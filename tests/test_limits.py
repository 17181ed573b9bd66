"""The limits: documents of 200 nodes, papers of 4000 values and states."""

import random
import unittest

import limits
from common import raised
from deadrules.answers import (
    all_values, can_have, can_match, can_meet, can_win, dead_rules, died, idle_pieces)
from deadrules.comparing import parting, parting_of
from deadrules.errors import InvalidPaper, LimitExceeded
from deadrules.grammars import parse_grammar
from deadrules.least import check_kept, conditions, least_pieces, least_sheet, needed
from deadrules.papers import check_paper, denied, paper
from deadrules.sheets import parse_sheet
from deadrules.shorter import shorter


PLAIN = parse_sheet('own p n')


def answers(grammar, sheet, kind):
    """Return the list of calls that return documents with a node of a kind, for a rule 0 and a property p."""
    return [lambda: can_match(grammar, sheet, 0), lambda: can_meet(grammar, sheet, 0, 0),
            lambda: can_win(grammar, sheet, 0, 'p'), lambda: can_have(grammar, sheet, kind, 'p', 'm'),
            lambda: needed(grammar, sheet, (0, 0)), lambda: parting(grammar, sheet, PLAIN),
            lambda: parting(grammar, PLAIN, sheet), lambda: parting_of(grammar, sheet, PLAIN, 'p'),
            lambda: parting_of(grammar, PLAIN, sheet, 'p')]


def others(grammar, sheet):
    """Return the list of all other calls that raise an error if there are too many values or states."""
    return [lambda: all_values(grammar, sheet, 'a', 'p'), lambda: dead_rules(grammar, sheet),
            lambda: idle_pieces(grammar, sheet), lambda: died(grammar, grammar, sheet),
            lambda: died(parse_grammar('a :'), grammar, sheet), lambda: died(grammar, parse_grammar('a :'), sheet),
            lambda: paper(grammar, sheet), lambda: conditions(grammar, sheet), lambda: least_pieces(grammar, sheet),
            lambda: least_sheet(grammar, sheet), lambda: check_kept(grammar, sheet, []),
            lambda: check_kept(grammar, sheet, sheet.pieces()), lambda: shorter(grammar, sheet),
            lambda: parting(grammar, sheet, sheet)]


class DocumentsTest(unittest.TestCase):
    def check(self, widths, before=''):
        """Check all answers for the last kind of a grammar with kinds one below the other."""
        grammar = parse_grammar(limits.deep_grammar(widths, before))
        kind = limits.NAMES[len(widths)]
        size = limits.deep_size(widths)
        for at in range(1, min(4, widths[-1]) + 1):
            sheet = parse_sheet(f'own p n\n{kind}:nth(0,{at}) {{ p: m }}')
            for call in answers(grammar, sheet, kind):
                if size > 200:
                    self.assertEqual(raised(LimitExceeded, call).limit, 200)
                    continue
                document, path = call()
                self.assertEqual(document.size, size)
                self.assertIsNone(grammar.first_wrong(document))
                self.assertEqual((document.kind(path), path[-1]), (kind, at - 1))
            self.assertEqual(dead_rules(grammar, sheet), [])
            self.assertEqual(idle_pieces(grammar, sheet), [])
            self.assertEqual(all_values(grammar, sheet, kind, 'p'), ['m', 'n'][:2 if widths[-1] > 1 else 1])
            self.assertEqual(least_pieces(grammar, sheet), [(0, 0)])
            self.assertEqual([check_kept(grammar, sheet, kept) for kept in ([], [(0, 0)])], [False, True])
            self.assertEqual(died(grammar, parse_grammar('a :'), sheet), [0])
        return size

    def test_drawn_sizes(self):
        source = random.Random(101)
        for _ in range(80):
            self.check([source.randrange(1, 7) for _ in range(source.randrange(1, 8))])

    def test_sizes_at_the_limit(self):
        source = random.Random(102)
        for size in (198, 199, 200, 201, 202):
            for _ in range(4):
                self.assertEqual(self.check(limits.widths_of(size, source)), size)

    def test_beside_a_smaller_document(self):
        source = random.Random(103)
        for size in (200, 201):
            widths = limits.widths_of(size, source)
            while len(widths) > 6:
                widths = limits.widths_of(size, source)
            self.check(widths, ' | z | ')

    def test_a_smaller_document_is_enough(self):
        # The least size counts, not the depth or the number of states.
        grammar = parse_grammar('a : ' + ' '.join('b' * 11) + ' | c\nb : ' + ' '.join('d' * 12) + '\nd : '
                                + ' '.join('e' * 12) + '\nc : e')
        sheet = parse_sheet('own p n\ne { p: m }\nd e { p: o }')
        self.assertEqual(can_match(grammar, sheet, 0)[0].text, 'a(c(e))')
        self.assertEqual(raised(LimitExceeded, can_match, grammar, sheet, 1).limit, 200)
        self.assertEqual(dead_rules(grammar, sheet), [])

    def test_a_deep_document(self):
        grammar = parse_grammar('a : b\nb : b | c')
        for many, found in [(3, 5), (9, 11)]:
            sheet = parse_sheet('own p n\n' + 'b > ' * many + 'c { p: m }')
            self.assertEqual(can_match(grammar, sheet, 0)[0].size, many + 2)
            self.assertEqual(can_match(grammar, sheet, 0)[0].size, found)

    def test_no_document(self):
        for text in ['a : a', 'a : b\nb : a c', 'a : b\nb : c*\nc :\nd : d']:
            grammar = parse_grammar(text)
            sheet = parse_sheet('own p n\n' + ('d' if 'd' in text else '*') + ' { p: m }')
            for call in answers(grammar, sheet, 'd' if 'd' in text else 'a'):
                self.assertIsNone(call())
            self.assertEqual(least_pieces(grammar, sheet), [])


class PapersTest(unittest.TestCase):
    def too_much(self, grammar, sheet, kind='a'):
        for call in answers(grammar, sheet, kind) + others(grammar, sheet):
            self.assertEqual(raised(LimitExceeded, call).limit, 4000)
        # These do not look for the paper itself.
        for value in [None, ([], []), paper(parse_grammar('a :'), parse_sheet('own p n'))]:
            self.assertIs(check_paper(grammar, sheet, value), False)
            self.assertIs(raised(InvalidPaper, denied, grammar, sheet, value).value, value)

    def test_states(self):
        text, sheet, states = limits.chain(limits.CHAIN)
        self.assertEqual(states, 4000)
        grammar, sheet = parse_grammar(text), parse_sheet(sheet)
        found = paper(grammar, sheet)
        self.assertEqual(len(found[1]), 4000)
        self.assertIs(check_paper(grammar, sheet, found), True)
        self.assertEqual(denied(grammar, sheet, found), [])
        self.assertEqual(can_match(grammar, sheet, 9)[0].text, 'a(b(c(d(e(f.w(g))))))')
        self.assertEqual(dead_rules(grammar, sheet), [])
        self.assertEqual(all_values(grammar, sheet, 'g', 'p'), ['m', 'n'])
        self.assertEqual(len(least_pieces(grammar, sheet)), 10)

    def test_one_state_more(self):
        text, sheet, states = limits.chain([(0, 0), *limits.CHAIN])
        self.assertEqual(states, 4001)
        self.too_much(parse_grammar(text), parse_sheet(sheet))

    def test_one_state_more_beside_another_kind(self):
        # 4000 states, and one of a kind that can stand in the place of the chain.
        text, sheet, states = limits.chain(limits.CHAIN)
        self.too_much(parse_grammar(text.replace(': b', ': b | z')), parse_sheet(sheet))

    def test_states_that_no_document_has(self):
        # A kind that cannot occur has one value more, but no state.
        text, sheet, states = limits.chain(limits.CHAIN)
        found = paper(parse_grammar(text + '\nz : a'), parse_sheet(sheet))
        self.assertEqual((len(found[1]), len(found[0])), (4000, 16 + 1 + 8 + 2 + 2 + 2 + 2 + 1))

    def test_steps(self):
        for many in range(2, 13):
            grammar, sheet = parse_grammar('a p? : a?'), parse_sheet(limits.steps(many))
            if many < 12:
                self.assertEqual(len(paper(grammar, sheet)[1]), 2 ** many)
                document, path = can_match(grammar, sheet, 0)
                self.assertEqual((document.size, path), (many, (0,) * (many - 1)))
                self.assertEqual(document.marks(()), ('p',))
            else:
                self.too_much(grammar, sheet)

    def test_values(self):
        for root, levels, many in [(0, [3, 4, 4, 4, 4], 3513), (0, [4, 4, 4, 4, 4], 4161),
                                   (1, [0, 3, 3, 4, 4, 4, 4], 4000), (0, [4, 3, 4, 4, 4, 2, 3], 4001)]:
            text, sheet, values = limits.values(root, levels)
            self.assertEqual(values, many)
            grammar, sheet = parse_grammar(text), parse_sheet(sheet)
            if many > 4000:
                # There are no more than two documents, but the values that no document has count, too.
                self.too_much(grammar, sheet)
                continue
            found = paper(grammar, sheet)
            self.assertEqual((len(found[0]), len(found[1])), (many, 2 ** root))
            self.assertIs(check_paper(grammar, sheet, found), True)
            self.assertEqual(dead_rules(grammar, sheet), [0, 1, 2, 3])


class TwoSheetsTest(unittest.TestCase):
    def test_two_marks(self):
        # Four values, and for so many ancestors each whether they have the mark of a sheet.
        grammar = parse_grammar('a p? q? : a?')
        for left in range(2, 13):
            for right in sorted({2, 7, 12, max(2, 11 - left), max(2, 12 - left)}):
                one, two = parse_sheet(limits.steps(left)), parse_sheet(limits.steps(right, 'q', 'o'))
                if 2 ** (left + right) > 4000:
                    self.assertEqual(raised(LimitExceeded, parting, grammar, one, two).limit, 4000)
                    self.assertEqual(raised(LimitExceeded, parting_of, grammar, two, one, 'p').limit, 4000)
                    continue
                for document, path in [parting(grammar, one, two), parting_of(grammar, two, one, 'p')]:
                    self.assertEqual((document.size, path), (min(left, right), (0,) * (min(left, right) - 1)))
                # Each sheet alone is far from the limit; both together are counted.
                self.assertEqual(len(paper(grammar, one)[1]), 4 * 2 ** (left - 1))

    def test_states_of_both(self):
        # The rules of a chain with 4000 states, and with 4001, dealt out to two sheets.
        for levels, many in [(limits.CHAIN, 4000), ([(0, 0), *limits.CHAIN], 4001)]:
            text, rules, states = limits.chain(levels)
            self.assertEqual(states, many)
            grammar = parse_grammar(text)
            first, *rest = rules.split('\n')
            one, two = [parse_sheet('\n'.join([first, *rest[at::2]])) for at in (0, 1)]
            self.assertLess(len(paper(grammar, one)[1]) + len(paper(grammar, two)[1]), 2000)
            if many > 4000:
                self.assertEqual(raised(LimitExceeded, parting, grammar, one, two).limit, 4000)
            else:
                self.assertEqual(parting(grammar, one, two)[0].size, 7)

    def test_values_of_both(self):
        for root, levels, many in [(1, [0, 3, 3, 4, 4, 4, 4], 4000), (0, [4, 3, 4, 4, 4, 2, 3], 4001)]:
            text, rules, values = limits.values(root, levels)
            self.assertEqual(values, many)
            first, *rest = rules.split('\n')
            one, two = [parse_sheet('\n'.join([first, *rows])) for rows in (rest[:2], rest[2:])]
            grammar = parse_grammar(text)
            self.assertLess(len(paper(grammar, one)[0]), 2000)
            if many > 4000:
                self.assertEqual(raised(LimitExceeded, parting, grammar, one, two).limit, 4000)
            else:
                self.assertIsNone(parting(grammar, one, two))

    def nodes(self, sheets, marks):
        """Return how many nodes there are with a kind, marks, and what two sheets hand down to them.

        `marks` are those of two kinds in turn. A sheet is a list of tuples of a mark and the property that gets another
        value at nodes with it.
        """
        subsets = [[{one for at, one in enumerate(row) if number >> at & 1} for number in range(2 ** len(row))] for row in marks]
        found, new = set(), [(0, frozenset(), frozenset())]
        while new:
            turn, *pair = new.pop()
            if (turn, *pair) not in found:
                found.add((turn, *pair))
                new += [(1 - turn, *[before | {name for mark, name in rules if mark in node}
                                     for before, rules in zip(pair, sheets)]) for node in subsets[turn]]
        return sum(len(subsets[row[0]]) for row in found)

    def test_styles_of_both(self):
        # What both sheets hand down is told as a pair: a property can be given by one, by both, or by none.
        marks = ['wxyz', 'stuv']
        grammar = parse_grammar('a w? x? y? z? : b?\nb s? t? u? v? : a?')
        lines = [f'hand h{one} n' for one in 'abcd']
        first, second = [[(mark, 'h' + one) for mark, one in zip(row, 'abcd')] for row in marks]
        counts = []
        for many in range(5):
            sheets = [first, second[:many]]
            one, two = [parse_sheet('\n'.join([*lines, *[f'.{mark} {{ {name}: m }}' for mark, name in rules]]))
                        for rules in sheets]
            counts.append(self.nodes(sheets, marks))
            if counts[-1] > 4000:
                self.assertEqual(raised(LimitExceeded, parting, grammar, one, two).limit, 4000)
                self.assertLess(len(paper(grammar, one)[1]), 1000)
            else:
                self.assertEqual(parting(grammar, one, two)[0].size, 1)
        self.assertLess(counts[0], 1000)
        self.assertGreater(counts[3], 2000)
        self.assertGreater(counts[4], 4000)


class TwoDocumentsTest(unittest.TestCase):
    """The least sizes of documents that part two sheets."""

    def test_sizes(self):
        source = random.Random(104)
        for size in (1, 17, 150, 199, 200, 201, 202, 300):
            widths = limits.widths_of(size, source) if size > 17 else {1: [], 17: [4, 3]}[size]
            self.assertEqual(limits.deep_size(widths), size)
            grammar = parse_grammar(limits.deep_grammar(widths) if widths else 'a :')
            kind = limits.NAMES[len(widths)]
            for text in [f'{kind} {{ p: m }}', f'{kind}:nth(0,1) {{ p: m }}']:
                sheet = parse_sheet('own p n\n' + text)
                for call in answers(grammar, sheet, kind)[-4:]:
                    if size > 200:
                        self.assertEqual(raised(LimitExceeded, call).limit, 200)
                    else:
                        document, path = call()
                        self.assertEqual((document.size, document.kind(path)), (size, kind))
                # Sheets that are alike are told in any case.
                self.assertIsNone(parting(grammar, sheet, sheet))
                self.assertEqual(shorter(grammar, sheet).rules[0][2], (('p', 'm', False),))


if __name__ == '__main__':
    unittest.main()

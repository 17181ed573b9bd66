"""Least sheets: conditions, the pieces to keep, and why they are needed."""

import itertools
import random
import unittest

import drawn
import oracle
import search
import told
from common import NO_INTEGERS, raised
from deadrules.errors import InvalidPiece
from deadrules.grammars import parse_grammar
from deadrules.least import check_kept, conditions, least_pieces, least_sheet, needed
from deadrules.sheets import Sheet, parse_sheet
from deadrules.styles import styles


def draw(source, rules=4):
    """Return a drawn grammar and sheet, the form of the sheet, and small documents with their greatest size."""
    while True:
        grammar = parse_grammar('\n'.join(drawn.grammar(source)))
        form = drawn.sheet(source, rules)
        documents, most = search.listed(grammar, 5, 25)
        if documents or source.random() < 0.1:
            return grammar, parse_sheet(oracle.sheet_text(form)), form, documents, most


def first_kept(pieces, found):
    """Return the first of the shortest lists of pieces with which all conditions hold, by going through all of them."""
    for many in range(len(pieces) + 1):
        for kept in itertools.combinations(pieces, many):
            if all(told.holds(condition, kept) for condition in found):
                return list(kept)


class ConditionsTest(unittest.TestCase):
    def test_of_all_nodes(self):
        source = random.Random(111)
        kinds = set()
        for _ in range(700):
            grammar, sheet, form, documents, _ = draw(source)
            found = conditions(grammar, sheet)
            self.assertEqual(found, sorted(set(found)))
            for document in documents:
                nodes = oracle.nodes_of(document)
                for path in document:
                    for one in told.conditions(nodes, path, form):
                        self.assertIn(one, found, (grammar.text, sheet.text, document.text, path))
                        kinds.add((len(one[0]) > 1, len(one[1]) > 1, len(one[0]) > len(one[1]), one[2]))
        self.assertEqual(len(kinds), 8)

    def test_nothing_else_is_told(self):
        # Of grammars whose documents are all small.
        source = random.Random(112)
        some = 0
        for text in ['a x? y? :', 'a x? : b?\nb y? :', 'a : b? b?\nb x? :', 'a x? : (b | c)?\nb y? : c\nc x? :']:
            grammar = parse_grammar(text)
            documents = grammar.documents(6)
            for _ in range(40):
                form = drawn.sheet(source, 4)
                wanted = {one for document in documents for path in document
                          for one in told.conditions(oracle.nodes_of(document), path, form)}
                self.assertEqual(conditions(grammar, parse_sheet(oracle.sheet_text(form))), sorted(wanted))
                some += len(wanted)
        self.assertGreater(some, 300)

    def test_ranks(self):
        # Strong signs, layers, weights, and the places in the sheet, one after the other.
        sheet = parse_sheet('own p n\na { p: x }\na.x { p: y }\nlayer 1 * { p: x }\n* { p!: y }\na { p: n }\nb, a.x:first { p: z }')
        self.assertEqual(conditions(parse_grammar('a x :'), sheet),
                         [(((3, 0), (2, 0), (5, 0), (1, 0), (4, 0), (0, 0)), ((3, 0), (1, 0)), False)])
        self.assertEqual(conditions(parse_grammar('b :'), sheet), [(((3, 0), (2, 0), (5, 0)), ((3, 0),), False)])

    def test_whether_it_would_stay_without_any(self):
        grammar = parse_grammar('a :')
        for form, default, word, free in [('own', 'x', 'x', True), ('own', 'y', 'x', False), ('hand', 'x', 'x', True),
                                          ('hand', 'x', 'inherit', True), ('own', 'x', 'inherit', True)]:
            sheet = parse_sheet(f'{form} p {default}\na {{ p: {word} }}')
            self.assertEqual(conditions(grammar, sheet), [(((0, 0),), ((0, 0),), free)])

    def test_a_variable_without_a_value(self):
        sheet = parse_sheet('var v\nhand h 1\nown o 2\na { h: $v; o: $v or 2 }\n* { h: 1; o: $v; v: inherit }')
        self.assertEqual(conditions(parse_grammar('a :'), sheet),
                         [(((0, 0), (1, 0)), ((0, 0), (1, 0)), True), (((0, 1), (1, 1)), ((0, 1), (1, 1)), True),
                          (((1, 2),), ((1, 2),), True)])
        # With a value: the words do not count, and the others are not the same.
        sheet = parse_sheet('var v\nhand h 1\nown o 2\na { h: $v; o: $v or 2 }\n* { h: 1; o: $v; v: 7 }')
        self.assertEqual(conditions(parse_grammar('a :'), sheet),
                         [(((0, 0), (1, 0)), ((0, 0),), False), (((0, 1), (1, 1)), ((0, 1), (1, 1)), False),
                          (((1, 2),), ((1, 2),), False)])

    def test_values_of_the_parent(self):
        sheet = parse_sheet('hand h 1\nown o 1\na { h: 2; o: 2 }\nb { h: 2; o: 2 }\nb { h: inherit; o: inherit }\nb { h: 1; o: 1 }')
        self.assertEqual(conditions(parse_grammar('a : b'), sheet),
                         [(((0, 0),), ((0, 0),), False), (((0, 1),), ((0, 1),), False),
                          (((3, 0), (2, 0), (1, 0)), ((3, 0),), False), (((3, 1), (2, 1), (1, 1)), ((3, 1),), True)])
        sheet = parse_sheet('hand h 1\nown o 1\na { h: 2; o: 2 }\nb { h: 1; o: 1 }\nb { h: 2; o: 2 }\nb { h: inherit; o: inherit }')
        self.assertEqual(conditions(parse_grammar('a : b'), sheet)[2:],
                         [(((3, 0), (2, 0), (1, 0)), ((3, 0), (2, 0)), True),
                          (((3, 1), (2, 1), (1, 1)), ((3, 1), (2, 1)), False)])

    def test_nothing_matches(self):
        self.assertEqual(conditions(parse_grammar('a :'), parse_sheet('own p n\nb { p: x }')), [])
        self.assertEqual(conditions(parse_grammar('a : a'), parse_sheet('own p n\na { p: x }')), [])
        self.assertEqual(conditions(parse_grammar('a :'), parse_sheet('var v\nown p n')), [])


class LeastPiecesTest(unittest.TestCase):
    def test_beside_all_lists(self):
        source = random.Random(113)
        left_out = 0
        for _ in range(900):
            grammar, sheet, form, documents, _ = draw(source, 5)
            pieces = sheet.pieces()
            kept = least_pieces(grammar, sheet)
            if len(pieces) <= 9:
                self.assertEqual(kept, first_kept(pieces, conditions(grammar, sheet)), (grammar.text, sheet.text))
            least = least_sheet(grammar, sheet)
            self.assertIs(least.__class__, Sheet)
            self.assertEqual(least.text, oracle.sheet_text(told.only(form, kept)))
            for document in documents:
                self.assertEqual(styles(document, least), styles(document, sheet))
            # It needs all of its pieces.
            self.assertEqual(least_sheet(grammar, least), least)
            self.assertTrue(all(needed(grammar, least, piece) for piece in least.pieces()))
            left_out += len(pieces) - len(kept)
        self.assertGreater(left_out, 1000)

    def test_rules_for_all_children_of_a_root(self):
        source = random.Random(114)
        grammar = parse_grammar('a : b*')
        for _ in range(300):
            rules = []
            for at in range(source.randrange(2, 7)):
                layer = source.choice(['', '', 'layer 1 ', 'layer 2 '])
                selector = source.choice(['b', '*', 'a > b', 'a > b:not(:nth(0,0))'])
                rules.append((layer, selector, source.choice(['p', 'p!']), source.choice(['n', 'x', 'y'])))
            sheet = parse_sheet('own p n\n' + '\n'.join(
                f'{layer}{selector}:not(a) {{ {name}: {word} }}' for layer, selector, name, word in rules))
            # Of the rules with the word of the winner the first one is enough, if the word is not the default.
            weights = {'b': (1, 1), '*': (1, 0), 'a > b': (1, 2), 'a > b:not(:nth(0,0))': (2, 2)}
            ranks = [(name == 'p!', layer, weights[selector], at) for at, (layer, selector, name, _) in enumerate(rules)]
            word = rules[max(ranks)[-1]][3]
            wanted = [] if word == 'n' else [(next(at for at, rule in enumerate(rules) if rule[3] == word), 0)]
            self.assertEqual(least_pieces(grammar, sheet), wanted, sheet.text)

    def test_many_declarations(self):
        # Each of twelve properties has two of them; the second one is needed at nodes with a mark.
        names = ['p' + 'abcdefghijkl'[at] for at in range(12)]
        lines = [f'own {name} n' for name in names]
        first = 'b { ' + '; '.join(f'{name}: x' for name in names) + ' }'
        grammar = parse_grammar('a : b*\nb x? y? :')
        for word, wanted in [('x', [(0, at) for at in range(12)]), ('n', [(at, index) for at in (0, 1) for index in range(12)])]:
            second = '.x { ' + '; '.join(f'{name}!: {word}' for name in names) + ' }'
            sheet = parse_sheet('\n'.join([*lines, first, second]))
            self.assertEqual(least_pieces(grammar, sheet), wanted)

    def test_covers(self):
        # All rules say the same, so of those that match a node one has to stay; nodes are told apart by two kinds of marks.
        source = random.Random(115)
        grammar = parse_grammar('a : (b | c | d | e | f | g)*\n'
                                + '\n'.join(f'{kind} w? x? y? z? :' for kind in 'bcdefg'))
        for _ in range(12):
            rows = [source.choice('bcdefg') + ''.join(source.sample(['.w', '.x', '.y', '.z', ''], 2)) for _ in range(12)]
            rows = [f'{row}, {source.choice("bcdefg")}.{source.choice("wxyz")}' for row in rows]
            sheet = parse_sheet('own p n\n' + '\n'.join(f'{row} {{ p: m }}' for row in rows))
            self.assertEqual(least_pieces(grammar, sheet), first_kept(sheet.pieces(), conditions(grammar, sheet)))

    def test_covers_of_24_pieces(self):
        # A ring of six kinds with four marks each: each rule is for two neighbours, so every second one is enough.
        kinds = 'bcdefg'
        grammar = parse_grammar('a : (b | c | d | e | f | g)*\n' + '\n'.join(f'{kind} w x y z :' for kind in kinds))
        rows = [f':not({one}):not({other})' for one, other in itertools.combinations(kinds, 2)][:12]
        sheet = parse_sheet('own p n\n' + '\n'.join(f'{row}.w {{ p: m }}\n{row}.x {{ p: m }}' for row in rows))
        self.assertEqual(len(sheet.pieces()), 24)
        # Every kind is left out by some rules: the first one and the first one that is for what it leaves out.
        self.assertEqual(least_pieces(grammar, sheet), [(0, 0), (18, 0)])
        marks = parse_grammar('a : b*\nb ' + ' '.join(f'{mark}?' for mark in 'wxyz') + ' :')
        rows = [f'.{one}:not(.{other})' for one, other in itertools.permutations('wxyz', 2)]
        sheet = parse_sheet('own p n\n' + '\n'.join(f'{row}:nth({at},1) {{ p: m }}' for row in rows for at in (0, 1)))
        kept = least_pieces(marks, sheet)
        # `:nth(1,1)` is for all children. A node has one mark and lacks another one unless it has all or none:
        # with four rules in a ring each such node is met.
        self.assertEqual(kept, [(1, 0), (9, 0), (17, 0), (19, 0)])

    def test_without_rules(self):
        sheet = parse_sheet('var v\nown p n')
        grammar = parse_grammar('a : a?')
        self.assertEqual(least_pieces(grammar, sheet), [])
        self.assertEqual(least_sheet(grammar, sheet), sheet)
        self.assertIs(check_kept(grammar, sheet, []), True)

    def test_grammars_without_documents(self):
        sheet = parse_sheet('own p n\na { p: x }')
        grammar = parse_grammar('a : a')
        self.assertEqual([conditions(grammar, sheet), least_pieces(grammar, sheet), least_sheet(grammar, sheet).rules,
                          needed(grammar, sheet, (0, 0))], [[], [], [], None])
        self.assertIs(check_kept(grammar, sheet, []), True)


class NeededTest(unittest.TestCase):
    def test_beside_an_own_search(self):
        source = random.Random(116)
        found, none = 0, 0
        for _ in range(500):
            grammar, sheet, form, documents, most = draw(source, 3)
            for piece in sheet.pieces():
                less = told.only(form, [one for one in sheet.pieces() if one != piece])

                def shows(document, path):
                    nodes = oracle.nodes_of(document)
                    return oracle.style(nodes, path, form) != oracle.style(nodes, path, less)

                sizes = [document.size for document in documents if any(shows(document, path) for path in document)]
                answer = needed(grammar, sheet, piece)
                search.check_answer(self, grammar, answer, sizes, most, shows)
                found += answer is not None
                none += answer is None
        self.assertGreater(found, 400)
        self.assertGreater(none, 400)

    def test_the_node(self):
        grammar = parse_grammar('a : b*\nb x? : c?')
        sheet = parse_sheet('hand p n\n.x { p: m }\nc { p: inherit }\nb + b.x c { p: o }')
        document, path = needed(grammar, sheet, (0, 0))
        self.assertEqual((document.text, path), ('a(b.x)', (0,)))
        self.assertIsNone(needed(grammar, sheet, (1, 0)))
        document, path = needed(grammar, sheet, (2, 0))
        self.assertEqual((document.text, path), ('a(b,b.x(c))', (1, 0)))


class KeptTest(unittest.TestCase):
    GRAMMAR = parse_grammar('a : b*\nb x? :')
    SHEET = parse_sheet('own p n\nown q n\nb { p: m; q: m }\n.x { p: m; q: o }\na { p: n }')

    def test_lists_and_tuples(self):
        # (1, 0) follows from (0, 0), and the default from nothing; in any order.
        needs = [(0, 0), (0, 1), (1, 1)]
        for many in range(6):
            for kept in itertools.permutations(self.SHEET.pieces(), many):
                wanted = set(needs) <= set(kept)
                self.assertIs(check_kept(self.GRAMMAR, self.SHEET, kept), wanted)
                self.assertIs(check_kept(self.GRAMMAR, self.SHEET, list(kept)), wanted)
        self.assertEqual(least_pieces(self.GRAMMAR, self.SHEET), needs)

    def test_drawn(self):
        source = random.Random(117)
        counts = {True: 0, False: 0}
        for _ in range(400):
            grammar, sheet, form, documents, _ = draw(source)
            found = conditions(grammar, sheet)
            pieces = sheet.pieces()
            self.assertIs(check_kept(grammar, sheet, pieces), True)
            self.assertIs(check_kept(grammar, sheet, tuple(least_pieces(grammar, sheet))), True)
            for _ in range(3):
                kept = [piece for piece in pieces if source.random() < 0.75]
                wanted = all(told.holds(condition, kept) for condition in found)
                self.assertIs(check_kept(grammar, sheet, kept), wanted)
                counts[wanted] += 1
                less = told.only(form, kept)
                for document in documents:
                    nodes = oracle.nodes_of(document)
                    if oracle.styles(nodes, form) != oracle.styles(nodes, less):
                        self.assertFalse(wanted)
        self.assertGreater(min(counts.values()), 200)

    def test_given_lists_stay(self):
        kept = [(1, 1), (0, 1), (0, 0)]
        check_kept(self.GRAMMAR, self.SHEET, kept)
        self.assertEqual(kept, [(1, 1), (0, 1), (0, 0)])

    def test_no_pieces(self):
        no_pieces = [*NO_INTEGERS, 5, -1, (0,), (0, 0, 0), (0, 2), (3, 0), (-1, 0), (0, -1), [0, 0], ('0', '0'), ('0', 0),
                     (True, 0), (0, False), (0, None), (10 ** 29, 0), ((0, 0),)]
        for value in no_pieces:
            self.assertIs(raised(InvalidPiece, needed, self.GRAMMAR, self.SHEET, value).value, value)
            for before, behind in [([], []), ([(1, 1)], [(0, 0)]), ([(0, 0)], ['z'])]:
                self.assertIs(raised(InvalidPiece, check_kept, self.GRAMMAR, self.SHEET, [*before, value, *behind]).value, value)
        for value in [None, True, 0, '', 'ab', {}, {(0, 0): 1}, set(), {(0, 0)}, b'']:
            self.assertIs(raised(InvalidPiece, check_kept, self.GRAMMAR, self.SHEET, value).value, value)
        twice = [(0, 0), (1, 1), (0, 0)]
        self.assertEqual(raised(InvalidPiece, check_kept, self.GRAMMAR, self.SHEET, twice).value, (0, 0))
        self.assertEqual(raised(InvalidPiece, check_kept, self.GRAMMAR, self.SHEET, (*twice, 'z')).value, (0, 0))

    def test_before_the_limits(self):
        grammar = parse_grammar('a p? : a?')
        sheet = parse_sheet('own p n\n.p' + ' > *' * 10 + ' > a { p: m }')
        self.assertRaises(OverflowError, needed, grammar, sheet, (0, 0))
        self.assertEqual(raised(InvalidPiece, needed, grammar, sheet, (0, 1)).value, (0, 1))
        self.assertEqual(raised(InvalidPiece, check_kept, grammar, sheet, [(0, 0), (0, 0)]).value, (0, 0))


if __name__ == '__main__':
    unittest.main()

"""Papers that hold and papers that do not."""

import random
import unittest

import closed
import drawn
import oracle
import search
import told
from common import NO_STRINGS, raised
from deadrules.answers import can_match, dead_rules
from deadrules.documents import parse_document
from deadrules.errors import InvalidPaper
from deadrules.grammars import parse_grammar
from deadrules.papers import check_paper, denied, paper, state
from deadrules.sheets import parse_sheet

GRAMMAR = parse_grammar('a : b*\nb x? : c?')
SHEET = parse_sheet('var v\nown p x\na:has(> b.x) > b + b ~ b, a:has(c) b c { p: y }\n'
                    'b:has(+ b ~ b) { p: z; v: w }\nb:nth(2,1) c { p: inherit }')
PAPER = paper(GRAMMAR, SHEET)


def without(rows, at):
    return rows[:at] + rows[at + 1:]


def replaced(row, at, one):
    return (*row[:at], one, *row[at + 1:])


class BentTest(unittest.TestCase):
    def refused(self, value, grammar=GRAMMAR, sheet=SHEET):
        self.assertIs(check_paper(grammar, sheet, value), False, value)
        self.assertIs(raised(InvalidPaper, denied, grammar, sheet, value).value, value)

    def test_it_holds(self):
        self.assertIs(check_paper(GRAMMAR, SHEET, PAPER), True)
        self.assertEqual(denied(GRAMMAR, SHEET, PAPER), [])
        self.assertGreater(len(PAPER[0]), 8)
        self.assertGreater(len(PAPER[1]), 100)

    def test_another_order(self):
        source = random.Random(81)
        for _ in range(10):
            values, states = list(PAPER[0]), list(PAPER[1])
            source.shuffle(values)
            source.shuffle(states)
            self.assertIs(check_paper(GRAMMAR, SHEET, (values, states)), True)
            self.assertEqual(denied(GRAMMAR, SHEET, (values, states)), [])

    def test_smaller_numbers(self):
        source = random.Random(82)
        noughts = tuple([(row, 0) for row, _ in rows] for rows in PAPER)
        self.assertIs(check_paper(GRAMMAR, SHEET, noughts), True)
        # A smaller number asks for smaller ones of all that follows from it, so these do not hold in general.
        states = [(row, source.randrange(number + 1)) for row, number in PAPER[1]]
        self.refused((PAPER[0], states))
        # But halves follow from halves.
        halves = tuple([(row, number // 2) for row, number in rows] for rows in PAPER)
        leaves = [(row, min(number, 1)) for row, number in PAPER[1]]
        self.assertIs(check_paper(GRAMMAR, SHEET, (noughts[0], leaves)), True)
        self.assertIs(check_paper(GRAMMAR, SHEET, (halves[0], noughts[1])), True)

    def test_rows_left_out(self):
        values, states = PAPER
        for at in range(len(values)):
            self.refused((without(values, at), states))
        for at in range(len(states)):
            self.refused((values, without(states, at)))
        self.refused(([], []))
        self.refused((values, []))
        self.refused(([], states))

    def test_rows_twice(self):
        values, states = PAPER
        for at, row in enumerate(values):
            for other in (row, (row[0], 0)):
                self.refused(([*values, other], states))
        for at, row in enumerate(states[::7]):
            for other in (row, (row[0], 0)):
                self.refused((values, [other, *states]))

    def test_numbers_too_great(self):
        values, states = PAPER
        for at, (row, number) in enumerate(values):
            self.refused(([*values[:at], (row, number + 1), *values[at + 1:]], states))
        for at, (row, number) in enumerate(states):
            self.refused((values, [*states[:at], (row, number + 1), *states[at + 1:]]))

    def test_numbers_that_are_none(self):
        for at in (0, 1):
            for number in [-1, -10 ** 29, None, True, False, '1', '', [], (), (1,), {}, b'1']:
                rows = list(PAPER)
                rows[at] = [(rows[at][0][0], number), *rows[at][1:]]
                self.refused(tuple(rows))

    def test_other_kinds(self):
        values, states = PAPER
        for value in [*NO_STRINGS, '', 'a', [values, states], (values,), (values, states, []), (values, states, states),
                      (tuple(values), states), (values, tuple(states)), (dict(values), states), (values, dict(states)),
                      (None, states), (values, None), ('', ''), ({}, {}), (states, values), ([()], []), ([], [()])]:
            self.refused(value)

    def test_rows_of_another_form(self):
        values, states = PAPER
        for row in [*NO_STRINGS, 'ab', [values[0][0], 1], (values[0][0],), (*values[0], 1), (), ((), 1), (None, 1), ('a', 1)]:
            self.refused(([row, *values], states))
            self.refused((values, [row, *states]))
            self.refused(([row, *values[1:]], states))

    def test_other_parts_of_a_value(self):
        at = [bool(row[2]) for row, _ in PAPER[0]].index(True)
        row, number = PAPER[0][at]
        rest = without(PAPER[0], at)
        bent = [replaced(row, 0, kind) for kind in [*NO_STRINGS, '', 'z', 'ab', 'A']]
        bent += [replaced(row, 1, marks) for marks in [*NO_STRINGS, 'x', ('y',), ['x'], ('x', 'x'), (1,), (None,)] if marks != ()]
        bent += [replaced(row, at, items) for at in (2, 3) for items in self.no_items(row[at], row[5 - at])]
        bent += [row[:3], (*row, ()), list(row), (row,)]
        for one in bent:
            self.refused(([*rest, (one, number)], PAPER[1]))
            self.refused(([*PAPER[0], (one, number)], PAPER[1]))
            # The value of a state.
            self.refused((PAPER[0], [*PAPER[1], ((one, 1, True, (), (), (), (), (), (), (None, None)), 9)]))

    def no_items(self, items, others):
        """Return values that are no rows of items of the kind of a row that is one."""
        self.assertNotEqual(items, ())
        number, index = items[0]
        found = [value for value in NO_STRINGS if value != ()] + [list(items), ((),), (items,), (None,), ((number,),)]
        found += [((number, index), (number, index)), ((number, index, 0),), ([number, index],), ((number, -1),)]
        found += [((99, 0),), ((0, 99),), ((-1, 0),), ((str(number), index),), ((True, index),), ((number, False),)]
        # Items that stand behind or before another join.
        return found + [others, (*items, *others), (*others, *items)]

    def test_marks_of_another_kind(self):
        for marks in [('x',), ('x', 'y')]:
            self.refused(([*PAPER[0], (('a', marks, (), ()), 1)], PAPER[1]))
        needed = parse_grammar('a x y z? : ')
        sheet = parse_sheet('')
        self.assertTrue(check_paper(needed, sheet, paper(needed, sheet)))
        for marks in [(), ('x',), ('y', 'x'), ('x', 'z'), ('x', 'y', 'z', 'w'), ['x', 'y']]:
            values = [*paper(needed, sheet)[0], (('a', marks, (), ()), 1)]
            self.refused((values, paper(needed, sheet)[1]), needed, sheet)

    def test_other_parts_of_a_state(self):
        values, states = PAPER
        # From the state of a node without children nothing follows, so just its form can be wrong.
        leaves = [one for one, _ in states if one[0] in [('b', (), (), ()), ('b', ('x',), (), ()), ('c', (), (), ())]]
        leaves = [one for one in leaves if self.holds_with(replaced(one, 9, ('other', 'words')))]
        full = {at: next(one for one in leaves if one[at]) for at in range(3, 9)}
        one = leaves[0]
        bent = [replaced(one, 1, place) for place in [0, -1, 4, 10 ** 29, True, None, '1', (1,), [], b'']]
        bent += [replaced(one, 2, last) for last in [0, 1, None, 'True', (), [True], 'x']]
        for at, found in full.items():
            others = [rows[other] for other, rows in full.items() if other != at]
            for other in others:
                bent += [replaced(found, at, items) for items in self.no_items(found[at], other)]
        bent += [replaced(one, 9, style) for style in
                 [*[value for value in NO_STRINGS if value != ()], (), (None,), ('x',), ('x', 'x', 'x'), ['x', 'x'], 'xx',
                  (None, 1), (None, True), ('', 'x'), ('inherit', 'x'), ('X', 'x'), ('x', 'abcdefghi'), ('x', ('x',)), ('x', 'a b')]]
        bent += [one[:9], (*one, ()), list(one), (one,), replaced(one, 0, ('z', (), (), ())), replaced(one, 0, one)]
        for row in bent:
            self.refused((values, [*states, (row, 50)]))
        # A value of the right form that is not in the first list.
        self.refused((values, [*states, (replaced(one, 0, ('c', (), ((0, 0),), ())), 50)]))

    def test_words_in_the_style_of_the_parent(self):
        # Each one can be a word or None; what follows from it has to be told, too.
        leaf = next(one for one, _ in PAPER[1] if one[0][0] == 'c')
        for style in [('abcdefgh', '0'), ('9', None), (None, 'or')]:
            self.assertIs(check_paper(GRAMMAR, SHEET, (PAPER[0], [*PAPER[1], (replaced(leaf, 9, style), 50)])), True)

    def holds_with(self, row):
        """Return whether the paper holds with one state more."""
        return check_paper(GRAMMAR, SHEET, (PAPER[0], [*PAPER[1], (row, 50)]))

    def test_roots_have_the_number_nought(self):
        grammar, sheet = parse_grammar('a : b'), parse_sheet('own p x')
        values, states = paper(grammar, sheet)
        self.assertEqual(states[0][1], 0)
        self.refused((values, [(states[0][0], 1), states[1]]), grammar, sheet)
        self.assertIs(check_paper(grammar, sheet, (values, [states[0], (states[1][0], 0)])), True)


class DrawnPapersTest(unittest.TestCase):
    def test_bent_at_any_place(self):
        source = random.Random(83)
        many = 0
        while many < 150:
            grammar = parse_grammar('\n'.join(drawn.grammar(source)))
            sheet = parse_sheet(oracle.sheet_text(drawn.small_sheet(source)))
            values, states = paper(grammar, sheet)
            self.assertIs(check_paper(grammar, sheet, (values, states)), True)
            self.assertEqual(denied(grammar, sheet, (values, states)), dead_rules(grammar, sheet))
            if not 1 < len(states) < 80:
                continue
            many += 1
            for rows, other, order in [(values, states, 1), (states, values, -1)]:
                at = source.randrange(len(rows))
                row, number = rows[at]
                for bent in [without(rows, at), [*rows, rows[at]], [*rows[:at], (row, number + 1), *rows[at + 1:]]]:
                    self.assertIs(check_paper(grammar, sheet, (bent, other)[::order]), False)
                self.assertIs(check_paper(grammar, sheet, ([*rows[::-1]], other)[::order]), True)
            self.assertIs(check_paper(grammar, sheet, ([(one, 0) for one, _ in values], [(one, 0) for one, _ in states])), True)

    def test_denied_agrees_with_the_states(self):
        source = random.Random(84)
        some = 0
        for _ in range(200):
            grammar = parse_grammar('\n'.join(drawn.grammar(source)))
            one = drawn.small_sheet(source)
            sheet = parse_sheet(oracle.sheet_text(one))
            found = denied(grammar, sheet, paper(grammar, sheet))
            self.assertEqual(found, [rule for rule in range(len(one[1])) if can_match(grammar, sheet, rule) is None])
            documents, _ = search.listed(grammar, 6, 30)
            for row in search.all_seen(documents, one):
                self.assertFalse(set(found) & set(row.matching))
            some += bool(found)
        self.assertGreater(some, 50)


class OtherPapersTest(unittest.TestCase):
    """Papers that hold though they are not that of `paper`."""

    def test_rows_of_a_wider_grammar(self):
        source = random.Random(85)
        pairs = [('a : b', 'a : b*'), ('a : b c', 'a : (b | c)*'), ('a : b?\nb : c\nc x :', 'a : b?\nb : c?\nc x :'),
                 ('a : b+\nb x? :\nc :', 'a : b+\nb x? : c?')]
        rules = ['b + b { p: y }\nc { p: z }', 'a:has(> c) > b ~ c { p: y }\nb:last { p: z }', 'b:has(c) { p: y }\n.x { p: z }',
                 'c.x { p: z }\nb:nth(2,2) { p: y }', 'b:has(~ b.x) { p: y }\nb:first { p: z }']
        for narrow, wide in pairs:
            narrow, wide = parse_grammar(narrow), parse_grammar(wide)
            for text in rules:
                sheet = parse_sheet('hand p x\n' + text)
                one, other = paper(narrow, sheet), paper(wide, sheet)
                if other[0] == one[0] and other[1] == one[1]:
                    continue
                # The paper of the wider grammar holds for the narrower one, but not the other way round.
                self.assertIs(check_paper(narrow, sheet, other), True, (narrow.text, text))
                self.assertIs(check_paper(wide, sheet, one), False, (narrow.text, text))
                self.assertLessEqual(set(denied(narrow, sheet, other)), set(dead_rules(narrow, sheet)))
                self.assertEqual(denied(narrow, sheet, other), dead_rules(wide, sheet))
                for at, rows in enumerate(other):
                    for place, (row, _) in enumerate(rows):
                        if row in dict(one[at]):
                            bent = list(other)
                            bent[at] = without(rows, place)
                            self.assertIs(check_paper(narrow, sheet, tuple(bent)), False)

    def test_drawn_wider_grammars(self):
        source = random.Random(86)
        many = 0
        for _ in range(400):
            lines = drawn.grammar(source)
            # The same kinds and marks, and more rows of children.
            wider = []
            for line in lines:
                head, _, model = line.partition(':')
                wider.append(f'{head}: {source.choice([model, f"({model})?", f"({model})*", f"{model} |"])}')
            narrow, wide = parse_grammar('\n'.join(lines)), parse_grammar('\n'.join(wider))
            if narrow.kinds != wide.kinds:
                continue
            sheet = parse_sheet(oracle.sheet_text(drawn.small_sheet(source)))
            one, other = paper(narrow, sheet), paper(wide, sheet)
            self.assertIs(check_paper(narrow, sheet, other), True, (narrow.text, wide.text, sheet.text))
            for rule in denied(narrow, sheet, other):
                self.assertIsNone(can_match(narrow, sheet, rule))
            if not set(dict(other[1])) <= set(dict(one[1])) or not set(dict(other[0])) <= set(dict(one[0])):
                many += 1
                self.assertIs(check_paper(wide, sheet, one), False, (narrow.text, wide.text, sheet.text))
        self.assertGreater(many, 80)

    def test_rows_of_a_sheet_with_another_default(self):
        grammar = parse_grammar('a : b?\nb x? : b?')
        rules = '\na b > b { p: y; q: inherit }\nb.x { q: z }'
        one, two = [parse_sheet(f'hand p {default}\nown q m' + rules) for default in 'mn']
        values, states = paper(grammar, one)
        more = [row for row in paper(grammar, two)[1] if row[0] not in dict(states)]
        # The roots of the other sheet, and all that follows from them.
        self.assertEqual([row[0][0][0] for row in more[:1]], ['a'])
        self.assertIs(check_paper(grammar, one, (values, states + more)), True)
        self.assertEqual(denied(grammar, one, (values, states + more)), [])
        refused = 0
        for at, (row, _) in enumerate(more):
            holds = check_paper(grammar, one, (values, states + without(more, at)))
            # A root is below no other node, so nothing asks for those of the other sheet.
            self.assertEqual(holds, row[0][0] == 'a', row)
            refused += not holds
        self.assertGreater(refused, 3)
        for at in range(len(states)):
            self.assertIs(check_paper(grammar, one, (values, without(states, at) + more)), False)

    def test_values_that_do_not_occur(self):
        # A b that is said to have something with x below it, though nothing can.
        grammar = parse_grammar('a : b*\nb : c?\nc :')
        sheet = parse_sheet('own p n\na:has(.x) { p: m }\nb:has(> .x) { p: o }')
        values, states = paper(grammar, sheet)
        self.assertEqual(denied(grammar, sheet, (values, states)), [0, 1])
        extra = [(('b', (), (), ((0, 0),)), 5), (('a', (), (), ((0, 0),)), 6)]
        style = (None,)
        more = [((('a', (), (), ((0, 0),)), 1, True, (), (), (), (), (), (), style), 0)]
        more += [((('b', (), (), ((0, 0),)), place, last, (), (), (), (), (), (), style), place + (not last))
                 for place in (1, 2) for last in (True, False)]
        self.assertIs(check_paper(grammar, sheet, (values + extra, states + more)), True)
        self.assertEqual(denied(grammar, sheet, (values + extra, states + more)), [1])
        for at in (0, 1):
            self.assertIs(check_paper(grammar, sheet, (values + without(extra, at), states + more)), False)
        for at in range(len(more)):
            self.assertIs(check_paper(grammar, sheet, (values + extra, states + without(more, at))), False)
        for at, (row, number) in enumerate(more):
            bent = [*more[:at], (row, number + 1), *more[at + 1:]]
            self.assertIs(check_paper(grammar, sheet, (values + extra, states + bent)), False)
        self.assertIs(check_paper(grammar, sheet, (values + [extra[0], (extra[1][0], 7)], states + more)), False)


class DrawnRowsTest(unittest.TestCase):
    """Papers with drawn rows put in and left out, beside the second checker of closed.py."""

    def draw(self, source):
        """Return the text of a drawn grammar whose nodes have up to three children, and its rows of marks."""
        lines, marks = [], {}
        for at, kind in enumerate('abc'):
            words = source.choice([[], [], ['x?'], ['x']])
            marks[kind] = {'': [()], 'x': [('x',)], 'x?': [(), ('x',)]}[''.join(words)]
            model = source.choice(['', '_', '_?', '_ _', '_? _?', '_ | _', '(_ | _)? _?']) if kind != 'c' else ''
            while '_' in model:
                model = model.replace('_', source.choice('abc'[at + 1:] + 'abc'[at:] * (source.random() < 0.2)), 1)
            lines.append(' '.join([kind, *words, ':', model]))
        return '\n'.join(lines), marks

    def items(self, source, sheet, join):
        """Return drawn rows of items of relatives, and of selectors, that a join notes."""
        for rows, noted in [(told.relatives(sheet), closed.noted_relatives), (told.selectors(sheet), closed.noted_selectors)]:
            every = [(number, index) for number, row in enumerate(rows) for index in range(len(row))]
            yield tuple(item for item in noted(sheet, every, join) if source.random() < 0.5)

    def value(self, source, sheet, marks):
        kind = source.choice('abc')
        inner, deep = [next(self.items(source, sheet, join)) for join in '> ']
        return (kind, source.choice(marks[kind]), inner, deep)

    def state(self, source, sheet, value):
        behind = [next(self.items(source, sheet, join)) for join in '+~']
        before = [list(self.items(source, sheet, join))[1] for join in ' >+~']
        place = source.randrange(1, sum(told.span(sheet)) + 1)
        style = tuple(source.choice([None, 'n', 'red']) for _ in sheet[0])
        return (value, place, source.random() < 0.5, *behind, *before, style)

    def bend(self, source, sheet, marks, values, states):
        """Change the rows of a paper at one place."""
        rows = source.choice([values, states])
        choice = source.randrange(4)
        if choice < 2 and rows:
            row, number = rows.pop(source.randrange(len(rows)))
            if choice:
                rows.append((row, max(0, number + source.choice([-2, -1, 1, 2]))))
        elif rows is values or not values:
            one = self.value(source, sheet, marks)
            if one not in dict(values):
                values.append((one, source.randrange(4)))
        else:
            one = self.state(source, sheet, source.choice(values)[0])
            if one not in dict(states):
                states.append((one, source.randrange(5)))

    def test_drawn_rows(self):
        source = random.Random(88)
        counts = {True: 0, False: 0}
        while sum(counts.values()) < 3000:
            text, marks = self.draw(source)
            grammar = parse_grammar(text)
            form = drawn.small_sheet(source)
            sheet = parse_sheet(oracle.sheet_text(form))
            values, states = paper(grammar, sheet)
            if len(values) > 20 or len(states) > 50:
                continue
            checker = closed.Closed(grammar, marks, form, 3)
            self.assertTrue(checker.holds(values, states))
            for _ in range(10):
                bent = list(values), list(states)
                for _ in range(source.choice([1, 1, 2, 3])):
                    self.bend(source, form, marks, *bent)
                wanted = all(row[0] in dict(bent[0]) for row, _ in bent[1]) and checker.holds(*bent)
                self.assertIs(check_paper(grammar, sheet, bent), wanted, (grammar.text, sheet.text, bent))
                counts[wanted] += 1
        self.assertGreater(min(counts.values()), 500, counts)


class AnswersInPapersTest(unittest.TestCase):
    def test_the_node_of_each_answer(self):
        source = random.Random(87)
        many = 0
        while many < 250:
            grammar = parse_grammar('\n'.join(drawn.grammar(source)))
            form = drawn.small_sheet(source)
            sheet = parse_sheet(oracle.sheet_text(form))
            values, states = paper(grammar, sheet)
            if not states or len(states) > 100:
                continue
            for rule in range(len(sheet.rules)):
                found = can_match(grammar, sheet, rule)
                if found is None:
                    continue
                many += 1
                document, path = found
                one = state(sheet, document, path)
                part = document.part(path)
                self.assertEqual(dict(states)[one], document.size - part.size)
                self.assertEqual(dict(values)[one[0]], part.size)
                rest = [row for row in states if row[0] != one]
                self.assertIs(check_paper(grammar, sheet, (values, rest)), False)
                for other in document:
                    self.assertIn(state(sheet, document, other), dict(states))
                    self.assertIn(told.value(oracle.nodes_of(document), other, form), dict(values))


if __name__ == '__main__':
    unittest.main()

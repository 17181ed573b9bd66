"""Papers beside the states of all small documents, and known papers."""

import random
import re
import unittest

import drawn
import oracle
import search
import told
from deadrules.answers import dead_rules
from deadrules.documents import parse_document
from deadrules.grammars import parse_grammar
from deadrules.papers import check_paper, paper, state
from deadrules.sheets import parse_sheet


def least_outside(documents, sheet):
    """Return the dict of the states of all nodes with the least numbers of nodes outside, by told.py."""
    found = {}
    for document in documents:
        nodes = oracle.nodes_of(document)
        for path in document:
            inside = sum(one[:len(path)] == path for one in nodes)
            one = told.state(nodes, path, sheet)
            found[one] = min(len(nodes) - inside, found.get(one, 999))
    return found


def least_parts(lines, kinds, sheet, most):
    """Return the dict of the values of the parts of all kinds with their least sizes, and the greatest sizes listed."""
    found, sizes = {}, {}
    for kind in kinds:
        # The grammar with this kind as the root.
        own = [line for line in lines if line.split()[0] == kind] or [f'{kind} :']
        grammar = parse_grammar('\n'.join([*own, *[line for line in lines if line not in own]]))
        documents, sizes[kind] = search.listed(grammar, most, 40)
        for document in documents:
            one = told.value(oracle.nodes_of(document), (), sheet)
            found[one] = min(document.size, found.get(one, 999))
    return found, sizes


def greatest(lines):
    """Return a size that no document of a grammar exceeds whose models have no `*` and `+`, and no kind above its own."""
    sizes = {}
    for line in reversed(lines):
        head, _, model = line.partition(':')
        sizes[head.split()[0]] = 1 + sum(sizes.get(name, 1) for name in re.findall('[a-z]+', model))
    return sizes[lines[0].split()[0]]


class DrawnPapersTest(unittest.TestCase):
    def test_papers_tell_documents(self):
        source = random.Random(71)
        with_states, with_relatives = 0, 0
        for _ in range(1200):
            lines = drawn.grammar(source, marks=['x'])
            grammar = parse_grammar('\n'.join(lines))
            one = drawn.small_sheet(source)
            sheet = parse_sheet(oracle.sheet_text(one))
            values, states = paper(grammar, sheet)
            numbers = dict(values)
            self.assertEqual(len(numbers), len(values))
            self.assertEqual(len(dict(states)), len(states))
            # A state stands in a document of the size of both numbers, and in no smaller one.
            documents, most = search.listed(grammar, 6, 40)
            wanted = {one: number for one, number in states if number + numbers[one[0]] <= most}
            self.assertEqual(wanted, least_outside(documents, one), (grammar.text, sheet.text))
            found, sizes = least_parts(lines, grammar.kinds, one, 5)
            wanted = {value: number for value, number in values if number <= sizes[value[0]]}
            self.assertEqual(wanted, found, (grammar.text, sheet.text))
            with_states += len(states) > 1
            with_relatives += any(value[2] or value[3] for value, _ in values)
        self.assertGreater(with_states, 500)
        self.assertGreater(with_relatives, 150)

    def test_papers_of_finite_grammars(self):
        source = random.Random(72)
        many = 0
        while many < 150:
            lines = [re.sub('[*+]', '?', line) for line in drawn.grammar(source, marks=['x'])]
            heads = [line.split()[0] for line in lines]
            above = [re.findall('|'.join(heads[:at + 1]), line.partition(':')[2]) for at, line in enumerate(lines)]
            if any(above) or not 2 <= greatest(lines) <= 7:
                continue
            grammar = parse_grammar('\n'.join(lines))
            documents = grammar.documents(7)
            if len(documents) > 200:
                continue
            many += 1
            one = drawn.small_sheet(source)
            found = paper(grammar, parse_sheet(oracle.sheet_text(one)))[1]
            self.assertEqual(dict(found), least_outside(documents, one))
            self.assertEqual([row for row, _ in found], sorted(dict(found), key=repr))

    def test_form(self):
        source = random.Random(73)
        for _ in range(100):
            found = paper(parse_grammar('\n'.join(drawn.grammar(source))),
                          parse_sheet(oracle.sheet_text(drawn.small_sheet(source))))
            self.assertIs(found.__class__, tuple)
            self.assertEqual([rows.__class__ for rows in found], [list, list])
            for rows in found:
                self.assertTrue(all(row.__class__ is tuple and len(row) == 2 for row in rows))
                self.assertEqual(rows, sorted(rows, key=lambda row: repr(row[0])))


class KnownPapersTest(unittest.TestCase):
    def test_places(self):
        for step in range(5):
            for least in range(5):
                start, turn = max(1, least), max(1, step)
                states = [((('a', (), (), ()), 1, True, (), (), (), (), (), (), (None,)), 0)]
                for place in range(1, start + turn + 1):
                    for last in (True, False):
                        one = (('b', (), (), ()), place, last, (), (), (), (), (), (), (None,))
                        # Outside are the root, the siblings before, and one behind that is not the last.
                        states.append((one, place + (not last)))
                values = [(('a', (), (), ()), 1), (('b', (), (), ()), 1)]
                found = paper(parse_grammar('a : b*'), parse_sheet(f'own p x\nb:nth({step},{least}) {{ p: y }}'))
                self.assertEqual(found, (values, sorted(states, key=lambda row: repr(row[0]))))

    def test_two_nth(self):
        for text, most in [('b:nth(2,1) { p: y }\nb:nth(3,0) { p: y }', 7), ('b:nth(4,1):nth(3,4) { p: y }', 16),
                           ('b:nth(4,3):not(:nth(2,1)) { p: y }', 7), ('a:has(b:nth(3,2)), :nth(2,2) { p: y }', 8),
                           ('b:nth(0,3) { p: y }\nb:nth(0,2) { p: y }', 4)]:
            states = paper(parse_grammar('a : b*'), parse_sheet('own p x\n' + text))[1]
            self.assertEqual({one[1] for one, _ in states}, set(range(1, most + 1)), text)
            self.assertEqual(max(number for _, number in states), most + 1)

    def test_handed_down(self):
        # A property that is handed down: the states of each kind are told apart by the marks above.
        grammar = parse_grammar('a x? : b\nb : c\nc : d')
        found = paper(grammar, parse_sheet('hand p n\n.x { p: y }'))
        values = [((kind, marks, (), ()), size) for kind, marks, size in
                  [('a', ('x',), 4), ('a', (), 4), ('b', (), 3), ('c', (), 2), ('d', (), 1)]]
        self.assertEqual(found[0], values)
        states = [(('a', ('x',), (), ()), 'n', 0), (('a', (), (), ()), 'n', 0),
                  *[((kind, (), (), ()), word, depth) for depth, kind in [(1, 'b'), (2, 'c'), (3, 'd')] for word in 'ny']]
        self.assertEqual(found[1], [((value, 1, True, (), (), (), (), (), (), (word,)), number)
                                    for value, word, number in states])
        # The same one that is not handed down: no state tells it.
        found = paper(grammar, parse_sheet('own p n\n.x { p: y }'))
        self.assertEqual({one[9] for one, _ in found[1]}, {(None,)})
        self.assertEqual(len(found[1]), 5)
        # With `inherit` anywhere they tell it, but just for the children.
        found = paper(grammar, parse_sheet('own p n\n.x { p: y }\nz { p: inherit }'))
        self.assertEqual(sorted(one[0][:1] + one[9] for one, _ in found[1]),
                         [('a', 'n'), ('a', 'n'), ('b', 'n'), ('b', 'y'), ('c', 'n'), ('d', 'n')])

    def test_variables(self):
        found = paper(parse_grammar('a x? : b'), parse_sheet('var v\nhand h big\n.x { v: 1; h: $v }'))[1]
        self.assertEqual([(one[0][:2], one[9]) for one, _ in found],
                         [(('a', ('x',)), (None, 'big')), (('a', ()), (None, 'big')), (('b', ()), ('1', '1')),
                          (('b', ()), (None, 'big'))])

    def test_values_of_all_kinds(self):
        # The kind c is in no document, and e has no part of finite size; f is only named.
        found = paper(parse_grammar('a : b f?\nb x? :\nc : b b\nd y : c+\ne : e b'), parse_sheet('own p n\nc:has(> .x) { p: m }'))
        self.assertEqual(found[0], [
            (('a', (), ((0, 0),), ()), 2), (('a', (), (), ()), 2), (('b', ('x',), (), ()), 1), (('b', (), (), ()), 1),
            (('c', (), ((0, 0),), ()), 3), (('c', (), (), ()), 3), (('d', ('y',), (), ()), 4), (('f', (), (), ()), 1)])
        self.assertEqual({one[0][0] for one, _ in found[1]}, {'a', 'b', 'f'})

    def test_no_documents(self):
        sheet = parse_sheet('own p n\na b { p: m }')
        self.assertEqual(paper(parse_grammar('a : a'), sheet), ([], []))
        self.assertEqual(paper(parse_grammar('a : b\nb : a b*'), sheet), ([], []))
        self.assertEqual(paper(parse_grammar('a : a b'), sheet), ([(('b', (), (), ()), 1)], []))
        self.assertEqual(paper(parse_grammar('a : b?\nb : b'), sheet)[1],
                         [((('a', (), (), ()), 1, True, (), (), (), (), (), (), (None,)), 0)])

    def test_sorted_by_repr(self):
        # The place 10 stands before 2, and () before ((0, 0),).
        states = paper(parse_grammar('a : b*'), parse_sheet('own p x\nb:nth(4,4):nth(3,0) { p: y }'))[1]
        self.assertEqual([one[1] for one, _ in states][1::2], sorted(range(1, 17), key=str))
        # Words are in quotes, None is not; a quote stands before a letter.
        states = paper(parse_grammar('a : b\nb x? : c'), parse_sheet('var p\n.x { p: nine }'))[1]
        self.assertEqual([one[9] for one, _ in states if one[0][0] == 'c'], [('nine',), (None,)])

    def test_a_row_that_is_found_later_can_be_smaller(self):
        # Two children of 3 and 4 nodes have both marks below them, but also one of 5.
        grammar = parse_grammar('a : b*\nb : c | d | e\nc y : f\nd x : f f\ne x y : f f f')
        values, states = paper(grammar, parse_sheet('own p n\na:has(.x):has(.y) { p: m }'))
        self.assertEqual(dict(values)[('a', (), (), ((0, 0), (1, 0)))], 6)
        # And of two ways to a child, with those above or beside it, the smaller one is found later, too.
        grammar = parse_grammar('a : b c | d\nb : f f f\nd : c | c f\nc x? :')
        states = dict(paper(grammar, parse_sheet('own p n\nz .x { p: m }'))[1])
        self.assertEqual({states[one] for one in states if one[0][0] == 'c' and one[1] == 1}, {2, 3})

    def test_no_child_has_the_number_nought(self):
        grammar = parse_grammar('a : b*')
        for digits, numbers in [('0,0', []), ('4,0', [4]), ('3,0', [3]), ('1,0', [1])]:
            values = paper(grammar, parse_sheet(f'own p n\na:has(> b:nth({digits})) {{ p: m }}'))[0]
            self.assertEqual([number - 1 for value, number in values if value[2]], numbers)

    def test_great_numbers(self):
        lines = [f'{kind} : ' + ' '.join([below] * 12) for kind, below in zip('abcdefg', 'bcdefgh')]
        grammar = parse_grammar('\n'.join(lines))
        values, states = paper(grammar, parse_sheet(''))
        self.assertEqual(dict(values)[('a', (), (), ())], 39089245)
        self.assertEqual(min(number for one, number in states if one[0][0] == 'h'), 39089244)


class NamesTest(unittest.TestCase):
    def test_other_names(self):
        source = random.Random(74)
        kinds = {'a': 'ka', 'b': 'kbbb', 'c': 'kc'}
        marks = {'x': 'mx', 'y': 'myy'}
        names = {**kinds, **marks}

        def exchanged(rows):
            return [((renamed(row), number)) for row, number in rows]

        def renamed(row):
            value = row if len(row) == 4 else row[0]
            value = (kinds[value[0]], tuple(marks[mark] for mark in value[1]), *value[2:])
            return value if len(row) == 4 else (value, *row[1:])

        for _ in range(150):
            text = '\n'.join(drawn.grammar(source))
            one = drawn.small_sheet(source)
            sheet = oracle.sheet_text(one)
            # The names of properties and words have other letters or stand elsewhere than those of kinds and marks.
            found = paper(parse_grammar(text), parse_sheet(sheet))
            other = re.sub(r'\b[abcxy]\b', lambda match: names[match.group()], text)
            lines = [re.sub(r'\b[abcxy]\b', lambda match: names[match.group()], head) + sign + body
                     for head, sign, body in [line.partition('{') if '{' in line else ('', '', line)
                                              for line in sheet.split('\n')]]
            wanted = tuple(sorted(exchanged(rows), key=lambda row: repr(row[0])) for rows in found)
            self.assertEqual(paper(parse_grammar(other), parse_sheet('\n'.join(lines))), wanted)

    def test_idle_lines(self):
        source = random.Random(75)
        for _ in range(150):
            text = '\n'.join(drawn.grammar(source))
            one = drawn.small_sheet(source)
            sheet = oracle.sheet_text(one)
            grammar = parse_grammar(text)
            found = paper(grammar, parse_sheet(sheet))
            name = one[0][0][1]
            idle = [f'zzz {{ {name}: red }}', f'.zzz > a, zzz b {{ {name}!: red }}']
            wider = parse_grammar(text + '\nyyy : ')
            extended = parse_sheet('\n'.join([sheet, *idle]))
            values, states = paper(wider, extended)
            self.assertEqual(states, found[1])
            self.assertEqual([row for row in values if row[0][0] != 'yyy'], found[0])
            self.assertEqual([row for row in values if row[0][0] == 'yyy'], [(('yyy', (), (), ()), 1)])
            many = len(one[1])
            self.assertEqual(dead_rules(wider, extended)[-2:], [many, many + 1])
            self.assertTrue(check_paper(wider, extended, (values, states)))
            for document in search.listed(grammar, 4, 10)[0]:
                for path in document:
                    self.assertIn(state(extended, parse_document(document.text), path), dict(states))


if __name__ == '__main__':
    unittest.main()

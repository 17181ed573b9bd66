"""Two sheets: the smallest documents that part them, and sheets that are alike."""

import itertools
import random
import unittest

import drawn
import oracle
import search
import told
from common import raised
from deadrules.answers import can_match, can_meet, dead_rules, idle_pieces
from deadrules.comparing import parting, parting_of
from deadrules.errors import InvalidName, InvalidSheets, LimitExceeded
from deadrules.grammars import parse_grammar
from deadrules.least import check_kept, conditions, least_sheet, needed
from deadrules.sheets import parse_sheet
from deadrules.styles import styles


def sheet_of(form):
    return parse_sheet(oracle.sheet_text(form))


def draw(source, rules=4, **kept):
    """Return a drawn grammar, the form of a sheet, and small documents with their greatest size."""
    while True:
        grammar = parse_grammar('\n'.join(drawn.grammar(source)))
        form = drawn.sheet(source, rules, **kept)
        documents, most = search.listed(grammar, 5, 25)
        if documents or source.random() < 0.1:
            return grammar, form, documents, most


def another(source, form):
    """Return the form of a sheet with the same lines of properties, often with some of the same rules."""
    if source.random() < 0.3:
        return (form[0], [drawn.rule(source, form[0]) for _ in range(source.randrange(5))])
    rules = []
    for layer, selectors, declarations in form[1]:
        choice = source.randrange(5)
        if choice == 0:
            selectors = [drawn.selector(source, 2), *selectors[1:]]
        elif choice == 1:
            declarations = drawn.rule(source, form[0])[2]
        elif choice == 2:
            layer = source.choice([0, 1, 9])
        rules.append((layer, selectors, declarations))
    if source.random() < 0.5:
        source.shuffle(rules)
    return (form[0], rules)


class DrawnSheetsTest(unittest.TestCase):
    def test_parting(self):
        source = random.Random(131)
        parted, alike, too_much = 0, 0, 0
        for _ in range(1200):
            grammar, form, documents, most = draw(source)
            other = another(source, form)
            one, two = sheet_of(form), sheet_of(other)
            looks = [(document, oracle.styles(oracle.nodes_of(document), form),
                      oracle.styles(oracle.nodes_of(document), other)) for document in documents]

            def differs(document, path):
                nodes = oracle.nodes_of(document)
                return oracle.style(nodes, path, form) != oracle.style(nodes, path, other)

            try:
                answer = parting(grammar, one, two)
            except LimitExceeded as error:
                self.assertEqual(error.limit, 4000)
                too_much += 1
                continue
            search.check_answer(self, grammar, answer, [document.size for document, left, right in looks if left != right],
                                most, differs)
            sizes = []
            for at, name in enumerate(one.names):
                def differs_in_one(document, path):
                    nodes = oracle.nodes_of(document)
                    return oracle.style(nodes, path, form)[name] != oracle.style(nodes, path, other)[name]

                found = parting_of(grammar, one, two, name)
                wanted = [document.size for document, left, right in looks
                          if any(row[1][at] != rest[1][at] for row, rest in zip(left, right))]
                search.check_answer(self, grammar, found, wanted, most, differs_in_one)
                sizes += [found[0].size] if found else []
            self.assertEqual(min(sizes, default=None), answer and answer[0].size)
            exchanged = parting(grammar, two, one)
            self.assertEqual(answer and answer[0].size, exchanged and exchanged[0].size)
            parted += answer is not None
            alike += answer is None
        self.assertGreater(parted, 300)
        self.assertGreater(alike, 300)
        self.assertLess(too_much, 10)


class AlikeTest(unittest.TestCase):
    def alike(self, grammar, one, two):
        self.assertIsNone(parting(grammar, one, two), (grammar.text, one.text, two.text))
        self.assertIsNone(parting(grammar, two, one))
        for name in one.names:
            self.assertIsNone(parting_of(grammar, one, two, name))

    def test_drawn(self):
        source = random.Random(132)
        for _ in range(250):
            grammar, form, _, _ = draw(source, 3)
            sheet = sheet_of(form)
            self.alike(grammar, sheet, sheet)
            lines = sheet.text.split('\n')
            self.alike(grammar, sheet, parse_sheet('\n \n'.join(['', *lines, '  '])))
            many = len(form[1])
            at = source.randrange(many) if many else 0
            rules = form[1]
            if many:
                layer, selectors, declarations = rules[at]
                self.alike(grammar, sheet, sheet_of((form[0], rules[:at + 1] + rules[at:])))
                twice = (layer, [*selectors, source.choice(selectors)], declarations)
                self.alike(grammar, sheet, sheet_of((form[0], [*rules[:at], twice, *rules[at + 1:]])))
            dead = (source.choice([0, 9]), [[('', ('zzz', [])), (' ', (None, []))]], drawn.rule(source, form[0])[2])
            # A new declaration of `inherit` counts as one of the sheet, though its rule is dead.
            self.alike(grammar, sheet, sheet_of((form[0], [*rules[:at], dead, *rules[at:]])))
            idle = idle_pieces(grammar, sheet)
            self.alike(grammar, sheet, sheet.only([piece for piece in sheet.pieces() if piece not in idle]))
            self.alike(grammar, sheet, least_sheet(grammar, sheet))

    def test_rules_exchanged(self):
        source = random.Random(133)
        counts = {'meet': 0, 'layer': 0, 'property': 0, 'parted': 0}
        for _ in range(700):
            grammar, form, _, _ = draw(source, 4, layers=(0, 0, 0, 1), strong=(False,))
            for at, (one, two) in enumerate(zip(form[1], form[1][1:])):
                sheet = sheet_of(form)
                exchanged = sheet_of((form[0], [*form[1][:at], two, one, *form[1][at + 2:]]))
                names = {name for name, _, _ in one[2]} & {name for name, _, _ in two[2]}
                why = None
                if one[0] != two[0]:
                    why = 'layer'
                elif not names:
                    why = 'property'
                elif can_meet(grammar, sheet, at, at + 1) is None:
                    why = 'meet'
                if why:
                    counts[why] += 1
                    self.alike(grammar, sheet, exchanged)
                else:
                    counts['parted'] += parting(grammar, sheet, exchanged) is not None
        self.assertGreater(min(counts.values()), 10, counts)

    def test_a_dead_rule(self):
        source = random.Random(134)
        many = 0
        while many < 60:
            grammar, form, _, _ = draw(source, 3)
            sheet = sheet_of(form)
            dead = dead_rules(grammar, sheet)
            if dead:
                many += 1
                rest = (form[0], [rule for at, rule in enumerate(form[1]) if at not in dead])
                self.alike(grammar, sheet_of(rest), sheet)


class KnownSheetsTest(unittest.TestCase):
    def test_the_smallest(self):
        grammar = parse_grammar('a : b*\nb x? : c?')
        one = parse_sheet('var v\nhand h 1\nown o 1\nb + b + b.x { v: 2; h: $v }\nc { o: $v or 3 }')
        two = parse_sheet('var v\nhand h 1\nown o 1\nb + b + b.x { v: 2 }\nc { o: $v }')
        # Without the variable: o is 3, or its default.
        document, path = parting(grammar, one, two)
        self.assertEqual((document.text, path), ('a(b(c))', (0, 0)))
        document, path = parting_of(grammar, one, two, 'h')
        self.assertEqual((document.text, path), ('a(b,b,b.x)', (2,)))
        self.assertEqual(parting_of(grammar, one, two, 'o')[0].size, 3)
        self.assertIsNone(parting_of(grammar, one, two, 'v'))

    def test_below_the_first_node_with_another_style(self):
        # h differs at b; o takes it over only below.
        grammar = parse_grammar('a : b\nb : c')
        lines = 'hand h 1\nown o 1\n'
        one = parse_sheet(lines + 'b { h: 2; o: 5 }\nc { o: inherit }')
        two = parse_sheet(lines + 'b { h: 2; o: 6 }\nc { o: 5 }')
        self.assertEqual(parting_of(grammar, one, two, 'o')[1], (0,))
        three = parse_sheet(lines + 'b { h: 2; o: 5 }\nc { o: 6 }')
        self.assertEqual(parting(grammar, one, three)[1], (0, 0))
        self.assertIsNone(parting(grammar, one, parse_sheet(lines + 'b { h: 2; o: 5 }\nc { o: 5 }')))

    def test_inherit_in_one_sheet_alone(self):
        # Each sheet hands down what its own declarations can take.
        grammar = parse_grammar('a x? : b')
        one = parse_sheet('own o n\n.x { o: m }\nb { o: inherit }')
        two = parse_sheet('own o n\n.x, .x > b { o: m }')
        self.assertIsNone(parting(grammar, one, two))
        document, path = parting(grammar, one, parse_sheet('own o n\n.x { o: m }'))
        self.assertEqual((document.text, path), ('a.x(b)', (0,)))

    def test_places_of_both_sheets(self):
        # The places of one sheet alone would not tell those of the other one.
        grammar = parse_grammar('a : b*')
        for left, right, least in [('2,1', '3,1', 3), ('2,0', '4,0', 2), ('0,3', '1,3', 4), ('4,3', '3,3', 6), ('3,1', '3,4', 1)]:
            one, two = [parse_sheet(f'own p n\nb:nth({digits}) {{ p: m }}') for digits in (left, right)]
            document, path = parting(grammar, one, two)
            self.assertEqual((document.size, path), (least + 1, (least - 1,)))

    def test_without_rules_and_properties(self):
        grammar = parse_grammar('a : a?')
        self.assertIsNone(parting(grammar, parse_sheet(''), parse_sheet('')))
        one, two = parse_sheet('own p n'), parse_sheet('own p n\na a { p: m }')
        self.assertEqual(parting(grammar, one, two)[0].text, 'a(a)')
        self.assertEqual(parting(grammar, two, one)[0].text, 'a(a)')


class RefusedTest(unittest.TestCase):
    GRAMMAR = parse_grammar('a p? : a?')

    def test_other_lines(self):
        lines = ['var v', 'hand h 1', 'own o 1']
        rule = 'a { h: 2 }'
        one = parse_sheet('\n'.join([*lines, rule]))
        others = [lines[:2], lines[1:], [*lines, 'own q 1'], ['var w', *lines[1:]], ['own v 1', *lines[1:]],
                  [lines[0], 'own h 1', lines[2]], [lines[0], 'hand h 2', lines[2]], [*lines[:2], 'hand o 1'],
                  [*lines[:2], 'own o 2'], *[list(order) for order in itertools.permutations(lines)][1:]]
        for other in others:
            two = parse_sheet('\n'.join([*other, rule] if 'h' in ' '.join(other).split()[1::2] else other))
            for call in (lambda: parting(self.GRAMMAR, one, two), lambda: parting_of(self.GRAMMAR, one, two, 'h'),
                         lambda: parting_of(self.GRAMMAR, one, two, 'zz'), lambda: parting_of(self.GRAMMAR, one, two, 5)):
                self.assertIs(raised(InvalidSheets, call).value, two)
            self.assertIs(raised(InvalidSheets, parting, self.GRAMMAR, two, one).value, one)
        same = parse_sheet(' \n'.join([' var  v', 'hand h 1', ' own  o 1']))
        self.assertIsNone(parting(self.GRAMMAR, parse_sheet('\n'.join(lines)), same))

    def test_drawn_lines(self):
        source = random.Random(135)
        counts = {True: 0, False: 0}
        for _ in range(300):
            left, right = drawn.properties(source, 2), drawn.properties(source, 2)
            if source.random() < 0.5:
                right = left
            one, two = sheet_of((left, [drawn.rule(source, left)])), sheet_of((right, []))
            counts[left == right] += 1
            if left == right:
                parting(self.GRAMMAR, one, two)
            else:
                self.assertIs(raised(InvalidSheets, parting, self.GRAMMAR, one, two).value, two)
        self.assertGreater(min(counts.values()), 100)

    def test_names(self):
        one = parse_sheet('own o 1\n.p' + ' > *' * 10 + ' > a { o: 2 }')
        for name in [None, True, 0, '', 'q', 'O', 'o ', b'o', [], ['o'], (), ('o',), {}, {'o': 1}, set()]:
            # Before the limit, which both sheets together exceed, and the first one alone, too.
            self.assertIs(raised(InvalidName, parting_of, self.GRAMMAR, one, one, name).name, name)
        self.assertEqual(raised(LimitExceeded, parting_of, self.GRAMMAR, one, one, 'o').limit, 4000)
        self.assertEqual(raised(LimitExceeded, parting, self.GRAMMAR, one, one).limit, 4000)
        two = parse_sheet('own o 2')
        self.assertIs(raised(InvalidSheets, parting, self.GRAMMAR, one, two).value, two)
        self.assertIs(raised(InvalidSheets, parting_of, self.GRAMMAR, one, two, 'q').value, two)


class KeptPiecesTest(unittest.TestCase):
    def test_kept_and_parted(self):
        source = random.Random(136)
        counts = {True: 0, False: 0}
        for _ in range(350):
            grammar, form, _, _ = draw(source, 3)
            sheet = sheet_of(form)
            found = conditions(grammar, sheet)
            for _ in range(3):
                kept = [piece for piece in sheet.pieces() if source.random() < 0.75]
                wanted = all(told.holds(condition, kept) for condition in found)
                self.assertIs(check_kept(grammar, sheet, kept), wanted)
                self.assertIs(parting(grammar, sheet, sheet.only(kept)) is None, wanted)
                counts[wanted] += 1
        self.assertGreater(min(counts.values()), 150)

    def test_needed_pieces(self):
        source = random.Random(137)
        many = 0
        for _ in range(300):
            grammar, form, _, _ = draw(source, 3)
            least = least_sheet(grammar, sheet_of(form))
            for piece in least.pieces():
                many += 1
                document, path = needed(grammar, least, piece)
                less = least.only([one for one in least.pieces() if one != piece])
                self.assertEqual(parting(grammar, least, less)[0].size, document.size)
                self.assertNotEqual(dict(styles(document, least))[path], dict(styles(document, less))[path])
        self.assertGreater(many, 200)

    def test_one_document(self):
        # The root has children b, c, d, e; which pieces change a style is seen in the one document.
        source = random.Random(138)
        for _ in range(200):
            many = source.randrange(1, 5)
            grammar = parse_grammar('a : ' + ' '.join('bcde'[:many]))
            rules = [f'{source.choice(["a", "b", "c", "*", "a > *", "b + c", ":last"])} '
                     f'{{ {source.choice(["v", "v!"])}: {source.choice(["1", "2", "inherit"])}; '
                     f'{source.choice(["h", "h!"])}: {source.choice(["$v", "$v or 3", "3", "4", "inherit"])} }}'
                     for _ in range(source.randrange(1, 5))]
            sheet = parse_sheet('\n'.join(['var v', 'hand h 3', *rules]))
            document, = grammar.documents(5)
            for piece in sheet.pieces():
                less = sheet.only([one for one in sheet.pieces() if one != piece])
                answer = needed(grammar, sheet, piece)
                self.assertEqual(answer is not None, styles(document, sheet) != styles(document, less))
                if answer:
                    self.assertEqual(answer[0], document)
                    self.assertNotEqual(dict(styles(document, sheet))[answer[1]], dict(styles(document, less))[answer[1]])


class TurnsTest(unittest.TestCase):
    """Two parts `:nth` at the children of a root that has any number of them."""

    def fits(self, digits, number):
        return number in [digits[0] * at + digits[1] for at in range(100)]

    def answered(self, answer, wanted):
        if wanted is None:
            self.assertIsNone(answer)
        else:
            document, path = answer
            self.assertEqual((document.text, path), (f'a({",".join(["b"] * wanted)})', (wanted - 1,)))

    def test_all_digits(self):
        grammar = parse_grammar('a : b*')
        pairs = list(itertools.product(range(5), repeat=2))
        for left, right in itertools.product(pairs, repeat=2):
            first, second = [f'b:nth({step},{least})' for step, least in (left, right)]
            both = next((at for at in range(1, 60) if self.fits(left, at) and self.fits(right, at)), None)
            self.answered(can_match(grammar, parse_sheet(f'own p n\n{first}{second[1:]} {{ p: m }}'), 0), both)
            rules = [parse_sheet(f'own p n\n{one} {{ p: m }}') for one in (first, second)]
            if (left, right) < (right, left) or left == right:
                sheet = parse_sheet(f'own p n\n{first} {{ p: m }}\n{second} {{ p: m }}')
                self.answered(can_meet(grammar, sheet, 0, 1), both)
                just_one = next((at for at in range(1, 60) if self.fits(left, at) != self.fits(right, at)), None)
                self.answered(parting(grammar, *rules), just_one)
                self.answered(parting_of(grammar, *rules, 'p'), just_one)


if __name__ == '__main__':
    unittest.main()

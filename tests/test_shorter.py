"""Moves and shorter sheets."""

import random
import unittest

import drawn
import limits
import oracle
import search
from common import raised
from deadrules.comparing import parting
from deadrules.errors import LimitExceeded
from deadrules.grammars import parse_grammar
from deadrules.papers import paper
from deadrules.sheets import Sheet, parse_sheet
from deadrules.shorter import moves, shorter
from deadrules.styles import styles


def without(row, at):
    return [*row[:at], *row[at + 1:]]


def shorter_selectors(selector):
    """Return the selectors behind all moves of one, in the form of oracle.py."""
    found = []
    for at, (join, (kind, parts)) in enumerate(selector):
        for index in range(len(parts)):
            found.append([*selector[:at], (join, (kind, without(parts, index))), *selector[at + 1:]])
    if len(selector) > 1:
        found.append([('', selector[1][1]), *selector[2:]])
    for at, (join, compound) in enumerate(selector):
        if join == ' ':
            found.append([*selector[:at], ('>', compound), *selector[at + 1:]])
    return found


def all_moves(form):
    """Return the texts of the sheets behind all moves."""
    lines, rules = form
    found = []
    for at, (layer, selectors, declarations) in enumerate(rules):
        for index, selector in enumerate(selectors):
            for one in shorter_selectors(selector):
                rule = (layer, [*selectors[:index], one, *selectors[index + 1:]], declarations)
                found.append((lines, [*rules[:at], rule, *rules[at + 1:]]))
    for at, (layer, selectors, declarations) in enumerate(rules):
        for other in range(at + 1, len(rules)):
            rule = None
            if rules[other][0] == layer and rules[other][1] == selectors:
                if not {one[0] for one in declarations} & {one[0] for one in rules[other][2]}:
                    rule = (layer, selectors, [*declarations, *rules[other][2]])
            if rules[other][0] == layer and rules[other][2] == declarations:
                rule = (layer, [*selectors, *rules[other][1]], declarations)
            if rule:
                found.append((lines, without([*rules[:other], rule, *rules[other + 1:]], at)))
    return [oracle.sheet_text(one) for one in found]


def draw_sheet(source, most=4):
    """Return a drawn sheet in which rules often have the same layer, and the same selectors or declarations."""
    lines, rules = drawn.sheet(source, most, layers=(0, 0, 1))
    found = []
    for layer, selectors, declarations in rules:
        if found and source.random() < 0.3:
            selectors = list(source.choice(found)[1])
        elif found and source.random() < 0.3:
            declarations = list(source.choice(found)[2])
        found.append((layer, selectors, declarations))
    return (lines, found)


class MovesTest(unittest.TestCase):
    def test_drawn(self):
        source = random.Random(141)
        joined = 0
        for _ in range(1500):
            form = draw_sheet(source, 6)
            sheet = parse_sheet(oracle.sheet_text(form))
            found = moves(sheet)
            self.assertTrue(all(one.__class__ is Sheet for one in found))
            self.assertEqual([one.text for one in found], all_moves(form), sheet.text)
            joined += sum(len(one.rules) < len(sheet.rules) for one in found)
        self.assertGreater(joined, 300)

    def texts(self, *rules):
        lines = 'own p n\nown q n\n'
        return [one.text[len(lines):].split('\n') for one in moves(parse_sheet(lines + '\n'.join(rules)))]

    def test_parts(self):
        # What stands in brackets is not changed; the root compound without its parts is `*`.
        self.assertEqual(self.texts('.x:first a:has(b c.y):not(.z) { p: m }'), [
            [':first a:has(b c.y):not(.z) { p: m }'], ['.x a:has(b c.y):not(.z) { p: m }'],
            ['.x:first a:not(.z) { p: m }'], ['.x:first a:has(b c.y) { p: m }'],
            ['a:has(b c.y):not(.z) { p: m }'], ['.x:first > a:has(b c.y):not(.z) { p: m }']])
        self.assertEqual(self.texts('.x.x { p: m }'), [['.x { p: m }'], ['.x { p: m }']])
        self.assertEqual(self.texts('.x { p: m }'), [['* { p: m }']])
        self.assertEqual(self.texts('* { p: m }', 'a { q!: m }'), [])

    def test_joins(self):
        self.assertEqual(self.texts('a b > c + d ~ e f { p: m }'), [
            ['b > c + d ~ e f { p: m }'], ['a > b > c + d ~ e f { p: m }'], ['a b > c + d ~ e > f { p: m }']])
        self.assertEqual(self.texts('layer 2 a > b, c { p!: m }'), [['layer 2 b, c { p!: m }']])

    def test_the_order(self):
        self.assertEqual(self.texts('a b, c > d { p: m }', 'e + f { q: m }'), [
            ['b, c > d { p: m }', 'e + f { q: m }'], ['a > b, c > d { p: m }', 'e + f { q: m }'],
            ['a b, d { p: m }', 'e + f { q: m }'], ['a b, c > d { p: m }', 'f { q: m }']])

    def test_rules_joined(self):
        self.assertEqual(self.texts('a { p: m }', 'b { p: m }', 'a { q: m }', 'b { q: o }'), [
            ['b, ' * 0 + 'a, b { p: m }', 'a { q: m }', 'b { q: o }'],
            ['b { p: m }', 'a { p: m; q: m }', 'b { q: o }'],
            ['a { p: m }', 'a { q: m }', 'b { p: m; q: o }']])
        # A common property, another layer, another order, another sign or another value.
        for one, two in [('a { p: m }', 'a { p: o }'), ('a { p: m }', 'layer 1 a { q: m }'), ('a { p: m }', 'layer 1 b { p: m }'),
                         ('a, b { p: m }', 'b, a { q: m }'), ('a { p: m; q: m }', 'b { q: m; p: m }'),
                         ('a { p: m }', 'b { p!: m }'), ('a { p: m }', 'b { p: n }'), ('a, b { p: m }', 'a { q: m }'),
                         ('a { p: m; q: m }', 'b { p: m }'), ('a { p: m }', 'a { p: m; q: m }')]:
            self.assertEqual(self.texts(one, two), [])
        self.assertEqual(self.texts('layer 3 a, b { p: m }', 'layer 3 a, b { p: m }'), [['layer 3 a, b, a, b { p: m }']])

    def test_without_rules(self):
        self.assertEqual(moves(parse_sheet('')), [])
        self.assertEqual(moves(parse_sheet('var v\nown p n')), [])


class ShorterTest(unittest.TestCase):
    def taken(self, grammar, sheet):
        """Return the sheet behind the moves that leave all styles, always the first one."""
        while True:
            found = next((one for one in moves(sheet) if parting(grammar, sheet, one) is None), None)
            if found is None:
                return sheet
            sheet = found

    def test_drawn(self):
        source = random.Random(142)
        changed = 0
        for _ in range(500):
            grammar = parse_grammar('\n'.join(drawn.grammar(source)))
            documents, _ = search.listed(grammar, 5, 25)
            if not documents and source.random() < 0.9:
                continue
            sheet = parse_sheet(oracle.sheet_text(draw_sheet(source)))
            found = shorter(grammar, sheet)
            self.assertIs(found.__class__, Sheet)
            self.assertEqual(found, self.taken(grammar, sheet))
            for document in documents:
                self.assertEqual(styles(document, found), styles(document, sheet))
            for one in moves(found):
                self.assertIsNotNone(parting(grammar, found, one))
            changed += found != sheet
        self.assertGreater(changed, 200)

    def rules(self, grammar, *rules):
        found = shorter(parse_grammar(grammar), parse_sheet('own p n\nown q n\n' + '\n'.join(rules)))
        return found.text.split('\n')[2:]

    def test_what_the_grammar_makes_needless(self):
        # Every b is the first child, has the mark x, and is below a.
        grammar = 'a : b\nb x y? : c*\nc : d?'
        self.assertEqual(self.rules(grammar, 'a > b.x:first { p: m }'), ['b { p: m }'])
        self.assertEqual(self.rules(grammar, 'a b.x.y c:not(b) { p: m }'), ['.y > c { p: m }'.replace('.y', 'b.y')])
        self.assertEqual(self.rules(grammar, 'c:nth(0,2) { p: m }'), ['c:nth(0,2) { p: m }'])
        self.assertEqual(self.rules(grammar, 'c:has(d):not(:last) { p: m }'), ['c:has(d):not(:last) { p: m }'])

    def test_a_blank(self):
        # Where it can be more than a child, the blank stays; where it cannot, it does not.
        self.assertEqual(self.rules('a : b?\nb x? : b?', '.x b { p: m }'), ['.x b { p: m }'])
        self.assertEqual(self.rules('a x? : b\nb : c', '.x b { p: m }'), ['.x > b { p: m }'])

    def test_weights_that_decide(self):
        # The first rule wins by its weight alone: without it the second one would.
        grammar = 'a : b'
        self.assertEqual(self.rules(grammar, 'a > b { p: m }', 'b { p: o }'), ['a > b { p: m }', 'b { p: o }'])
        self.assertEqual(self.rules(grammar, 'b { p: o }', 'a > b { p: m }'), ['b { p: o }', 'b { p: m }'])
        self.assertEqual(self.rules(grammar, 'layer 1 a > b { p: m }', 'b { p: o }'), ['layer 1 b { p: m }', 'b { p: o }'])
        self.assertEqual(self.rules(grammar, 'a > b { p!: m }', 'b { p: o }'), ['b { p!: m }', 'b { p: o }'])

    def test_rules_joined(self):
        grammar = 'a : b* c*'
        self.assertEqual(self.rules(grammar, 'b { p: m }', 'c { p: m }'), ['b, c { p: m }'])
        self.assertEqual(self.rules(grammar, 'b { p: m }', 'c { p: o }', 'b { q: m }'), ['c { p: o }', 'b { p: m; q: m }'])
        self.assertEqual(self.rules(grammar, 'b { p: m }', 'layer 1 c { p: m }'), ['b { p: m }', 'layer 1 c { p: m }'])
        # Joined, the first one would stand behind the one between them.
        self.assertEqual(self.rules(grammar, 'b { p: m }', '* { q: m; p!: o }', 'b { q: o }')[-1], 'b { p: m; q: o }')
        self.assertEqual(self.rules(grammar, 'b { p: m }', 'b:nth(0,1), b { p: o }', 'b { q: o }')[0], 'b { p: m }')

    def test_the_first_move_is_taken(self):
        # Either mark can be left out: the first one is.
        self.assertEqual(self.rules('a : b?\nb x y :', 'b.x.y { p: m }'), ['b { p: m }'])
        self.assertEqual(self.rules('a : (b | c)*\nb x y :\nc :', '.x.y { p: m }'), ['.y { p: m }'])

    def test_without_documents(self):
        # Any move leaves all styles.
        found = shorter(parse_grammar('a : a'), parse_sheet('own p n\nown q n\na.x > b c:first, d { p: m }\ne { p: m }\nf { q: m }'))
        self.assertEqual(found.text.split('\n')[2:], ['c, d, e { p: m }', 'f { q: m }'])
        self.assertEqual(moves(found), [])

    def test_limits(self):
        grammar = parse_grammar('a p? : a?')
        for many in range(2, 13):
            sheet = parse_sheet(limits.steps(many))
            # With the sheet behind the first move also the depths below ten are told apart.
            if many > 10:
                self.assertEqual(raised(LimitExceeded, shorter, grammar, sheet).limit, 4000)
            else:
                self.assertEqual(shorter(grammar, sheet), sheet)
        self.assertEqual(len(paper(grammar, parse_sheet(limits.steps(11)))[1]), 2048)
        self.assertEqual(raised(LimitExceeded, paper, grammar, parse_sheet(limits.steps(12))).limit, 4000)

    def test_the_sheet_itself_is_looked_at(self):
        # There is no move, so nothing is compared; what is handed down tells which kinds stand above.
        for kinds, too_much in [('bcd', False), ('bcdefgh', True)]:
            model = ' | '.join(kinds)
            grammar = parse_grammar('\n'.join(f'{kind} : ({model})*' for kind in 'a' + kinds))
            lines = [f'hand p{kind} n' for kind in kinds] + ['hand q n']
            sheet = parse_sheet('\n'.join([*lines, *[f'{kind} {{ p{kind}: y; q: {kind} }}' for kind in kinds]]))
            self.assertEqual(moves(sheet), [])
            if too_much:
                self.assertEqual(raised(LimitExceeded, shorter, grammar, sheet).limit, 4000)
            else:
                self.assertEqual(shorter(grammar, sheet), sheet)


if __name__ == '__main__':
    unittest.main()

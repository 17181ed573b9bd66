"""Calls by position and by the names of the interface, and results that hold on to nothing."""

import itertools
import unittest

from deadrules import (
    answers, comparing, console, documents, errors, grammars, least, papers, selectors, sheets, shorter, sittings, styles)
from deadrules.documents import parse_document
from deadrules.grammars import parse_grammar
from deadrules.selectors import parse_selector
from deadrules.sheets import parse_sheet

GRAMMAR = parse_grammar('a x? : b*\nb x? : b?')
NARROW = parse_grammar('a : b*\nb : b?')
SHEET = parse_sheet('var v\nown p n\n.x b { p: m; v: 1 }\nb + b { p: inherit }\nc { p: o }\na:has(> .x) { p: n }')
OTHER = parse_sheet('var v\nown p n\n.x > b { p: m; v: 1 }')
DOCUMENT = parse_document('a.x(b,b.x(b))')
PART = parse_document('b.x')
PAPER = papers.paper(GRAMMAR, SHEET)
SELECTOR = parse_selector('b.x')
SELECTION = SELECTOR | parse_selector('a')

# Each function or method with its arguments by their names, in the order of the interface.
CALLS = [
    (documents.parse_document, {'text': 'a(b)'}),
    (DOCUMENT.kind, {'path': (1,)}),
    (DOCUMENT.marks, {'path': (1,)}),
    (DOCUMENT.width, {'path': (1,)}),
    (DOCUMENT.part, {'path': (1,)}),
    (DOCUMENT.inserted, {'path': (1,), 'index': 1, 'part': PART}),
    (DOCUMENT.removed, {'path': (0,)}),
    (DOCUMENT.renamed, {'path': (0,), 'kind': 'c'}),
    (DOCUMENT.marked, {'path': (0,), 'marks': ['y', 'x']}),
    (grammars.parse_grammar, {'text': 'a : b'}),
    (GRAMMAR.fits, {'kind': 'a', 'kinds': ['b', 'b']}),
    (GRAMMAR.first_wrong, {'document': parse_document('a(c)')}),
    (GRAMMAR.least, {'kind': 'b'}),
    (GRAMMAR.documents, {'most': 2}),
    (selectors.parse_selector, {'text': 'a > b'}),
    (SELECTOR.found, {'document': DOCUMENT}),
    (SELECTOR.fits, {'document': DOCUMENT, 'path': (1,)}),
    (lambda **named: list(SELECTOR.on(**named)), {'document': DOCUMENT}),
    (SELECTION.texts, {}),
    (SELECTION.found, {'document': DOCUMENT}),
    (lambda **named: list(SELECTION.on(**named)), {'document': DOCUMENT}),
    (sheets.parse_sheet, {'text': 'own p n\na { p: m }'}),
    (SHEET.pieces, {}),
    (SHEET.only, {'pieces': [(1, 0), (0, 1)]}),
    (styles.styles, {'document': DOCUMENT, 'sheet': SHEET}),
    (styles.winners, {'document': DOCUMENT, 'sheet': SHEET, 'path': (1,)}),
    (styles.matching, {'document': DOCUMENT, 'sheet': SHEET, 'path': (1,)}),
    (answers.can_match, {'grammar': GRAMMAR, 'sheet': SHEET, 'rule': 1}),
    (answers.can_meet, {'grammar': GRAMMAR, 'sheet': SHEET, 'rule': 0, 'other': 1}),
    (answers.can_win, {'grammar': GRAMMAR, 'sheet': SHEET, 'rule': 1, 'name': 'p'}),
    (answers.can_have, {'grammar': GRAMMAR, 'sheet': SHEET, 'kind': 'b', 'name': 'v', 'value': '1'}),
    (answers.all_values, {'grammar': GRAMMAR, 'sheet': SHEET, 'kind': 'b', 'name': 'p'}),
    (answers.dead_rules, {'grammar': GRAMMAR, 'sheet': SHEET}),
    (answers.idle_pieces, {'grammar': GRAMMAR, 'sheet': SHEET}),
    (answers.died, {'old': GRAMMAR, 'new': NARROW, 'sheet': SHEET}),
    (papers.state, {'sheet': SHEET, 'document': DOCUMENT, 'path': (1,)}),
    (papers.paper, {'grammar': GRAMMAR, 'sheet': SHEET}),
    (papers.check_paper, {'grammar': GRAMMAR, 'sheet': SHEET, 'value': PAPER}),
    (papers.denied, {'grammar': GRAMMAR, 'sheet': SHEET, 'value': PAPER}),
    (least.conditions, {'grammar': GRAMMAR, 'sheet': SHEET}),
    (least.least_pieces, {'grammar': GRAMMAR, 'sheet': SHEET}),
    (least.least_sheet, {'grammar': GRAMMAR, 'sheet': SHEET}),
    (least.needed, {'grammar': GRAMMAR, 'sheet': SHEET, 'piece': (0, 0)}),
    (least.check_kept, {'grammar': GRAMMAR, 'sheet': SHEET, 'pieces': [(0, 0), (0, 1)]}),
    (comparing.parting, {'grammar': GRAMMAR, 'one': SHEET, 'two': OTHER}),
    (comparing.parting_of, {'grammar': GRAMMAR, 'one': SHEET, 'two': OTHER, 'name': 'p'}),
    (shorter.moves, {'sheet': SHEET}),
    (shorter.shorter, {'grammar': GRAMMAR, 'sheet': SHEET}),
]


def written(value):
    """Return a value in which documents, grammars, sheets and selectors are replaced by their texts."""
    if isinstance(value, (list, tuple)):
        return value.__class__(map(written, value))
    return (value.__class__, value.text) if hasattr(value, 'text') else value


def spoil(value):
    """Empty all lists in a value."""
    for one in value if isinstance(value, (list, tuple)) else []:
        spoil(one)
    if isinstance(value, list):
        value.clear()


def inside(value):
    """Return all that a value is made of, down to its attributes."""
    if isinstance(value, (list, tuple)):
        return [value.__class__, *map(inside, value)]
    if isinstance(value, dict):
        return [dict, *[(inside(key), inside(one)) for key, one in value.items()]]
    return [value.__class__, inside(vars(value))] if hasattr(value, '__dict__') else value


def made_anew(value):
    """Return a document, grammar or sheet as it is directly after it was read; other values as they are."""
    for kind, read in [(documents.Document, parse_document), (grammars.Grammar, parse_grammar), (sheets.Sheet, parse_sheet)]:
        if isinstance(value, kind):
            return read(value.text)
    return value


class CallsTest(unittest.TestCase):
    def test_by_position_and_by_name(self):
        for call, arguments in CALLS:
            wanted = written(call(**arguments))
            self.assertNotIn(wanted, (None, []), call)
            for names in itertools.permutations(arguments):
                self.assertEqual(written(call(**{name: arguments[name] for name in names})), wanted, call)
            if call.__name__ == '<lambda>':
                continue
            for many in range(1, len(arguments) + 1):
                names = list(arguments)
                rest = {name: arguments[name] for name in names[many:]}
                self.assertEqual(written(call(*[arguments[name] for name in names[:many]], **rest)), wanted, call)

    def test_on(self):
        for one in (SELECTOR, SELECTION):
            self.assertEqual(list(one.on(DOCUMENT)), list(one.on(document=DOCUMENT)))

    def test_results_are_new(self):
        for call, arguments in CALLS:
            wanted = written(call(**arguments))
            given = written(list(arguments.values()))
            spoil(call(**arguments))
            self.assertEqual(written(call(**arguments)), wanted, call)
            # No call changes what it is given.
            self.assertEqual(written(list(arguments.values())), given, call)

    def test_properties_are_new(self):
        for one, name in [(GRAMMAR, 'kinds'), (SHEET, 'names'), (SHEET, 'rules')]:
            wanted = list(getattr(one, name))
            getattr(one, name).clear()
            self.assertEqual(getattr(one, name), wanted)

    def test_results_do_not_hold_on_to_what_was_given(self):
        values, states = list(PAPER[0]), list(PAPER[1])
        self.assertIs(papers.check_paper(GRAMMAR, SHEET, (values, states)), True)
        states.pop()
        self.assertIs(papers.check_paper(GRAMMAR, SHEET, (values, states)), False)
        for call, wanted in [(lambda marks: DOCUMENT.marked((0,), marks), ['y']), (SHEET.only, [(0, 0)])]:
            given = list(wanted)
            found = call(given)
            given.clear()
            self.assertEqual(found, call(wanted))

    def test_the_same_again(self):
        for call, arguments in CALLS:
            fresh = {name: made_anew(value) for name, value in arguments.items()}
            self.assertEqual(written(call(**fresh)), written(call(**arguments)), call)

    def test_objects_stay_as_they_are(self):
        for call, arguments in CALLS:
            fresh = {name: made_anew(value) for name, value in arguments.items()}
            before = inside(fresh)
            call(**fresh)
            self.assertEqual(inside(fresh), before, call)

    def test_objects_stay_as_they_are_when_each_node_is_asked_for(self):
        document, sheet, selector = made_anew(DOCUMENT), made_anew(SHEET), parse_selector('a:has(> .x) > b + b')
        selection = selector | parse_selector('b')
        before = inside([document, sheet, selector, selection])
        for path in [*document, *document]:
            papers.state(sheet, document, path)
            styles.matching(document, sheet, path)
            styles.winners(document, sheet, path)
            styles.styles(document, sheet)
            selector.fits(document, path)
            selection.found(document)
        self.assertEqual(inside([document, sheet, selector, selection]), before)


class SittingCallsTest(unittest.TestCase):
    """Calls that change something: each one is made on objects of its own."""

    def sitting(self):
        one = sittings.Sitting(GRAMMAR, SHEET, DOCUMENT)
        one.edit(parse_document('a(b)'))
        one.restyle(OTHER)
        one.undo()
        return one

    def check(self, make, name, arguments, tell):
        """Check a method of new objects, by position and by names in any order."""
        found = []
        for names in itertools.permutations(arguments):
            one = make()
            found.append((getattr(one, name)(**{key: arguments[key] for key in names}), tell(one)))
        one = make()
        found.append((getattr(one, name)(*arguments.values()), tell(one)))
        self.assertEqual(found, found[:1] * len(found), name)
        return found[0]

    def told(self, one):
        return (one.document.text, one.sheet.text, len(one), one.changed(), one.touched())

    def test_making(self):
        wanted = sittings.Sitting(GRAMMAR, SHEET, DOCUMENT)
        for names in itertools.permutations(['grammar', 'sheet', 'document']):
            given = {'grammar': GRAMMAR, 'sheet': SHEET, 'document': DOCUMENT}
            self.assertTrue(sittings.Sitting(**{name: given[name] for name in names}) == wanted)
        self.assertEqual(console.Console(wanted).execute('show'), console.Console(sitting=wanted).execute(command='show'))
        self.assertEqual((wanted.grammar, wanted.sheet, wanted.document), (GRAMMAR, SHEET, DOCUMENT))

    def test_sittings(self):
        for name, arguments, many in [('edit', {'document': DOCUMENT}, 2), ('restyle', {'sheet': OTHER}, 2), ('undo', {'amount': 1}, 0),
                                      ('redo', {'amount': 1}, 2), ('undo', {}, 0), ('redo', {}, 2)]:
            result, (_, _, length, _, _) = self.check(self.sitting, name, arguments, self.told)
            self.assertEqual((result, length), (None, many))
        one = self.sitting()
        for call in (one.styles, one.changed, one.touched):
            self.assertIs(call().__class__, list)
        self.assertTrue(one.clone() == one)

    def test_drafts(self):
        def text(draft):
            draft.commit()
            return one.document.text

        def make():
            nonlocal one
            one = self.sitting()
            return one.draft()

        one = None
        for name, arguments, wanted in [('put', {'path': (), 'index': 0, 'text': 'b.x'}, 'a(b.x,b)'), ('drop', {'path': (0,)}, 'a'),
                                        ('rename', {'path': (0,), 'kind': 'b'}, 'a(b)'),
                                        ('mark', {'path': (0,), 'marks': ('x',)}, 'a(b.x)')]:
            self.assertEqual(self.check(make, name, arguments, text), (None, wanted))
        self.assertIsNone(make().commit())

    def test_apply_edits(self):
        for names in itertools.permutations(['sitting', 'edits']):
            given = {'sitting': self.sitting(), 'edits': [('drop', (0,))]}
            self.assertEqual(sittings.apply_edits(**{name: given[name] for name in names}), 'a')
            self.assertEqual(given['edits'], [('drop', (0,))])
        self.assertEqual(sittings.apply_edits(self.sitting(), edits=[('mark', (0,), ['x'])]), 'a(b.x)')

    def test_marks_that_are_given_are_copied(self):
        one = self.sitting()
        marks = ['x']
        edits = [('mark', (0,), marks)]
        sittings.apply_edits(one, edits)
        marks.clear()
        edits.clear()
        self.assertEqual(one.document.text, 'a(b.x)')

    def test_errors(self):
        fields = {'ParseError': 'line', 'InvalidText': 'value', 'InvalidPath': 'path', 'InvalidNumber': 'value', 'InvalidPart': 'value',
                  'InvalidName': 'name', 'InvalidPiece': 'value', 'InvalidPaper': 'value', 'InvalidSheets': 'value',
                  'InvalidDocument': 'path', 'InvalidCommand': 'value', 'LimitExceeded': 'limit', 'NothingToUndo': 'amount',
                  'DraftClosed': 'name'}
        for name, field in fields.items():
            for value in [None, 5, [1], {}, SHEET]:
                for error in (getattr(errors, name)(value), getattr(errors, name)(**{field: value})):
                    self.assertIs(getattr(error, field), value)


if __name__ == '__main__':
    unittest.main()

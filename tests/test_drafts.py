"""Drafts, and edits that are applied at once."""

import unittest

from common import NO_INTEGERS, NO_NAMES, NO_PATHS, raised
from deadrules.documents import parse_document
from deadrules.errors import (
    DraftClosed, InvalidDocument, InvalidNumber, InvalidPart, InvalidPath, InvalidText, LimitExceeded)
from deadrules.grammars import parse_grammar
from deadrules.sheets import parse_sheet
from deadrules.sittings import Draft, Sitting, apply_edits

GRAMMAR = parse_grammar('a : b*\nb x? y? : c*\nc x? :')
SHEET = parse_sheet('own p n\nb + b { p: m }')
# The methods with arguments that would be right in a(b,b(c)).
RIGHT = {'put': ((), 1, 'b.x'), 'drop': ((1, 0),), 'rename': ((1, 0), 'c'), 'mark': ((0,), ['x']), 'commit': ()}


def sitting(text='a(b,b(c))'):
    return Sitting(GRAMMAR, SHEET, parse_document(text))


class DraftTest(unittest.TestCase):
    def closed(self, draft):
        """Check that all methods raise an error with their own name, whatever their arguments."""
        for name, arguments in RIGHT.items():
            self.assertEqual(raised(DraftClosed, getattr(draft, name), *arguments).name, name)
            self.assertEqual(raised(DraftClosed, getattr(draft, name), *[None for _ in arguments]).name, name)
            self.assertEqual(raised(DraftClosed, getattr(draft, name), *[[] for _ in arguments]).name, name)

    def test_methods(self):
        for name, text in [('put', 'a(b,b.x,b(c))'), ('drop', 'a(b,b)'), ('rename', 'a(b,b(c))'), ('mark', 'a(b.x,b(c))')]:
            s = sitting()
            draft = s.draft()
            self.assertIs(draft.__class__, Draft)
            self.assertIsNone(getattr(draft, name)(*RIGHT[name]))
            # Nothing has an effect before the commit.
            self.assertEqual((s.document.text, len(s)), ('a(b,b(c))', 0))
            self.assertIsNone(draft.commit())
            self.assertEqual((s.document.text, len(s)), (text, 1))
            self.closed(draft)
            self.assertEqual((s.document.text, len(s)), (text, 1))

    def test_one_after_the_other(self):
        s = sitting()
        draft = s.draft()
        draft.put((0,), 0, 'c.x')
        draft.mark((0,), ('y', 'x'))
        draft.drop((1,))
        draft.put((), 0, 'b(c,c)')
        draft.put((), 2, 'd(e)')
        draft.rename((2,), 'b')
        draft.rename((2, 0), 'c')
        draft.mark((2, 0), [])
        draft.commit()
        self.assertEqual((s.document.text, len(s)), ('a(b(c,c),b.x.y(c.x),b(c))', 1))
        s.undo()
        self.assertEqual(s.document.text, 'a(b,b(c))')

    def test_with(self):
        s = sitting()
        with s.draft() as draft:
            self.assertIs(draft.__class__, Draft)
            draft.drop((0,))
            draft.commit()
            self.closed(draft)
        self.closed(draft)
        self.assertEqual((s.document.text, len(s)), ('a(b(c))', 1))

    def test_what_was_not_committed(self):
        s = sitting()
        with s.draft() as draft:
            draft.drop((0,))
        self.closed(draft)
        self.assertEqual((s.document.text, len(s)), ('a(b,b(c))', 0))
        other = s.draft()
        with other:
            other.drop((0,))
            other.drop((0, 0))
        self.closed(other)
        self.assertEqual(len(s), 0)

    def test_the_end_of_a_block_by_an_error(self):
        s = sitting()
        with self.assertRaises(InvalidPath):
            with s.draft() as draft:
                draft.drop((0,))
                draft.drop((7,))
        self.closed(draft)
        with self.assertRaises(InvalidDocument):
            with s.draft() as draft:
                draft.put((), 0, 'c')
                draft.commit()
        self.closed(draft)
        self.assertEqual((s.document.text, len(s)), ('a(b,b(c))', 0))

    def test_a_refused_commit(self):
        s = sitting()
        s.edit(parse_document('a(b)'))
        s.undo()
        before = (s.document.text, len(s), s.changed(), s.touched())
        draft = s.draft()
        draft.put((1,), 0, 'b')
        self.assertEqual(raised(InvalidDocument, draft.commit).path, (1,))
        self.assertEqual((s.document.text, len(s), s.changed(), s.touched()), before)
        s.redo()
        s.undo()
        # It is still open, and holds what was put in.
        draft.rename((1, 0), 'c')
        draft.commit()
        self.assertEqual((s.document.text, len(s)), ('a(b,b(c,c))', 1))
        self.closed(draft)

    def test_two_drafts(self):
        s = sitting()
        one, two = s.draft(), s.draft()
        one.drop((0,))
        two.mark((0,), ['x'])
        s.edit(parse_document('a(b,b,b)'))
        # Each one holds the document of its own time.
        three = s.draft()
        one.commit()
        self.assertEqual((s.document.text, len(s)), ('a(b(c))', 2))
        two.commit()
        self.assertEqual((s.document.text, len(s)), ('a(b.x,b(c))', 3))
        three.drop((0,))
        three.commit()
        self.assertEqual((s.document.text, len(s)), ('a(b,b)', 4))
        s.undo(4)
        self.assertEqual((s.document.text, len(s)), ('a(b,b(c))', 0))

    def test_a_commit_discards_what_was_taken_back(self):
        s = sitting()
        s.edit(parse_document('a(b)'))
        s.undo()
        draft = s.draft()
        draft.commit()
        self.assertEqual(len(s), 1)
        self.assertEqual((s.changed(), s.touched()), ([], []))
        self.assertRaises(RuntimeError, s.redo)

    def test_documents_that_the_grammar_does_not_have(self):
        draft = sitting().draft()
        draft.rename((), 'z')
        draft.put((), 0, 'z(z.z(z))')
        draft.rename((), 'a')
        self.assertEqual(raised(InvalidDocument, draft.commit).path, ())
        draft.drop((0,))
        draft.commit()


class RefusedTest(unittest.TestCase):
    def refused(self, kind, field, wrong, name, *arguments):
        """Check the error of a method, of the same edit, and that the draft and the sitting stay."""
        s = sitting()
        draft = s.draft()
        draft.mark((0,), ['y'])
        self.assertIs(getattr(raised(kind, getattr(draft, name), *arguments), field), wrong)
        draft.commit()
        self.assertEqual(s.document.text, 'a(b.y,b(c))')
        s = sitting()
        edits = [('mark', (0,), ['y']), (name, *arguments), ('nothing',)]
        self.assertIs(getattr(raised(kind, apply_edits, s, edits), field), wrong)
        self.assertEqual((s.document.text, len(s)), ('a(b,b(c))', 0))

    def test_paths(self):
        for path in [*NO_PATHS, (2,), (0, 0), (1, 1), (1, 0, 0)]:
            self.refused(InvalidPath, 'path', path, 'put', path, 0, 'b')
            self.refused(InvalidPath, 'path', path, 'put', path, None, 5)
            self.refused(InvalidPath, 'path', path, 'drop', path)
            self.refused(InvalidPath, 'path', path, 'rename', path, 'b')
            self.refused(InvalidPath, 'path', path, 'rename', path, 'B')
            self.refused(InvalidPath, 'path', path, 'mark', path, ['x'])
            self.refused(InvalidPath, 'path', path, 'mark', path, None)
        self.refused(InvalidPath, 'path', (), 'drop', ())

    def test_numbers(self):
        for index in [*NO_INTEGERS, -1, 3, 10 ** 29]:
            self.refused(InvalidNumber, 'value', index, 'put', (), index, 'b')
            # Before the text.
            self.refused(InvalidNumber, 'value', index, 'put', (), index, 'B')
        self.refused(InvalidNumber, 'value', 1, 'put', (0,), 1, 'c')

    def test_texts(self):
        for text in [None, True, 0, '', 'B', 'b(', 'b,b', ' b', 'b.x.x', b'b', [], ['b'], (), {}, set(), parse_document('b')]:
            self.refused(InvalidText, 'value', text, 'put', (), 0, text)

    def test_kinds_and_marks(self):
        for kind in NO_NAMES:
            self.refused(InvalidPart, 'value', kind, 'rename', (0,), kind)
        for marks in [None, True, 0, '', 'x', 'xy', {'x': 1}, {'x'}, ['x', 'x'], ('y', 'x', 'y'), ['X'], ['x', ''], [None], [['x']]]:
            self.refused(InvalidPart, 'value', marks, 'mark', (0,), marks)

    def test_too_many_nodes(self):
        wide = 'a(' + ','.join(['b'] * 150) + ')'
        s = sitting(wide)
        # First of the text by itself, then of the whole document.
        self.assertEqual(raised(LimitExceeded, s.draft().put, (), 0, 'b(' + ','.join(['c'] * 200) + ')').limit, 200)
        part = 'b(' + ','.join(['c'] * 48) + ')'
        draft = s.draft()
        draft.put((), 0, part)
        self.assertEqual(raised(LimitExceeded, draft.put, (), 0, 'b').limit, 200)
        draft.drop((1,))
        draft.put((), 0, 'b')
        draft.commit()
        self.assertEqual(s.document.size, 200)
        self.assertEqual(raised(LimitExceeded, apply_edits, s, [('put', (), 0, 'b'), ('drop', (0,))]).limit, 200)
        self.assertEqual((s.document.size, len(s)), (200, 1))
        apply_edits(s, [('drop', (0,)), ('put', (), 0, 'b')])
        self.assertEqual((s.document.size, len(s)), (200, 2))


class ApplyEditsTest(unittest.TestCase):
    def test_lists_and_tuples(self):
        edits = [('put', (), 0, 'b(c)'), ('mark', (0, 0), ('x',)), ('rename', (2, 0), 'c'), ('drop', (1,))]
        for given in (edits, tuple(edits)):
            s = sitting()
            self.assertEqual(apply_edits(s, given), 'a(b(c.x),b(c))')
            self.assertEqual((s.document.text, len(s)), ('a(b(c.x),b(c))', 1))
            s.undo()
            self.assertEqual(s.document.text, 'a(b,b(c))')
        self.assertEqual(edits, [('put', (), 0, 'b(c)'), ('mark', (0, 0), ('x',)), ('rename', (2, 0), 'c'), ('drop', (1,))])

    def test_no_edits(self):
        for given in ([], ()):
            s = sitting()
            self.assertEqual(apply_edits(s, given), 'a(b,b(c))')
            self.assertEqual((len(s), s.changed(), s.touched()), (1, [], []))

    def test_values_of_other_kinds(self):
        for value in [None, True, 0, 1, '', 'put', b'', {}, {('drop', (0,)): 1}, set(), {('drop', (0,))}, parse_document('a')]:
            s = sitting()
            self.assertIs(raised(InvalidPart, apply_edits, s, value).value, value)
            self.assertEqual((s.document.text, len(s)), ('a(b,b(c))', 0))

    def test_edits_of_another_form(self):
        bent = [None, True, 0, '', 'drop', b'drop', [], ['drop', (0,)], (), {}, {'drop': (0,)}, set(), ('commit',), ('zz', (0,)),
                ('Drop', (0,)), (None, (0,)), (['drop'], (0,)), ({}, (0,)), (0, (0,)), (True,), ('_check_open', 'put'), ('', ())]
        for name, arguments in RIGHT.items():
            if name != 'commit':
                bent += [(name,), (name, *arguments, None), (name, *arguments[:-1], None, None), ((name, *arguments),)]
                bent += [(name, *arguments[:-1])] if len(arguments) > 1 else []
        for edit in bent:
            for before, behind in [([], []), ([('drop', (0,))], [('drop', (7,))]), ([], [None, ('put', 5, 5, 5)])]:
                s = sitting()
                self.assertIs(raised(InvalidPart, apply_edits, s, [*before, edit, *behind]).value, edit)
                self.assertEqual((s.document.text, len(s)), ('a(b,b(c))', 0))

    def test_the_first_wrong_one(self):
        s = sitting()
        s.edit(parse_document('a(b)'))
        s.undo()
        before = (s.document.text, len(s), s.changed(), s.touched())
        # A path that an earlier edit has taken out; a wrong form behind it does not count.
        self.assertEqual(raised(InvalidPath, apply_edits, s, [('drop', (1,)), ('drop', (1,)), None]).path, (1,))
        self.assertEqual(raised(InvalidPart, apply_edits, s, [('drop', (1,)), None, ('drop', (1,))]).value, None)
        # Those of the commit come last.
        self.assertEqual(raised(InvalidDocument, apply_edits, s, [('put', (0,), 0, 'c'), ('rename', (1,), 'c')]).path, ())
        self.assertEqual(raised(InvalidDocument, apply_edits, s, [('put', (0,), 0, 'b(c)')]).path, (0,))
        self.assertEqual(raised(InvalidPath, apply_edits, s, [('rename', (1,), 'c'), ('drop', ())]).path, ())
        self.assertEqual((s.document.text, len(s), s.changed(), s.touched()), before)
        s.redo()
        self.assertEqual(s.document.text, 'a(b)')

    def test_wrong_on_the_way(self):
        s = sitting()
        self.assertEqual(apply_edits(s, [('rename', (), 'z'), ('rename', (), 'a')]), 'a(b,b(c))')
        self.assertEqual((len(s), s.changed()), (1, []))


if __name__ == '__main__':
    unittest.main()

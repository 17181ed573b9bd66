"""Sittings: what is changed and touched, histories, clones, and what is refused."""

import random
import unittest

import acted
import drawn
import oracle
import search
from common import NO_INTEGERS, raised
from deadrules.documents import parse_document
from deadrules.errors import (
    InvalidDocument, InvalidNumber, InvalidPart, InvalidSheets, NothingToUndo)
from deadrules.grammars import parse_grammar
from deadrules.sheets import parse_sheet
from deadrules.sittings import Sitting, apply_edits
from deadrules.styles import styles

NO_OBJECTS = [None, True, False, 0, 1, '', 'a', b'a', [], ['a'], (), ('a',), {}, {'a': 1}, set()]


def other_sheet(source, form):
    """Return the form of a sheet with the same lines of properties."""
    rules = list(form[1])
    for _ in range(source.randrange(3)):
        rules.insert(source.randrange(len(rules) + 1), drawn.rule(source, form[0]))
    if rules and source.random() < 0.7:
        rules.pop(source.randrange(len(rules)))
    if source.random() < 0.3:
        source.shuffle(rules)
    return (form[0], rules[:6])


class Play:
    """A sitting beside that of acted.py, with drawn changes."""

    def __init__(self, test, source):
        self.test = test
        self.source = source
        while True:
            self.grammar = parse_grammar('\n'.join(drawn.grammar(source)))
            self.documents, _ = search.listed(self.grammar, 8, 300)
            if len(self.documents) > 3:
                break
        form = drawn.sheet(source, 4)
        document = source.choice(self.documents)
        self.sitting = Sitting(self.grammar, parse_sheet(oracle.sheet_text(form)), document)
        self.acted = acted.Acted(form, document.text)

    def step(self):
        """Make a change, right or wrong; return the name of what was done."""
        source, sitting, own = self.source, self.sitting, self.acted
        form, text = own.now()
        name = source.choice(['edit', 'edit', 'restyle', 'undo', 'undo', 'redo'])
        if own.at + 1 < len(own.steps) and source.random() < 0.6:
            name = 'redo'
        result = None
        if name == 'edit':
            document = source.choice([*self.documents, parse_document(text)])
            result = sitting.edit(document)
            own.change(form, document.text)
        elif name == 'restyle':
            other = other_sheet(source, form)
            result = sitting.restyle(parse_sheet(oracle.sheet_text(other)))
            own.change(other, text)
        else:
            call = sitting.undo if name == 'undo' else sitting.redo
            amount = source.choice([1, 1, 1, 2, 2, 3, 4, 0, -1, *source.sample(NO_INTEGERS, 1)])
            if isinstance(amount, bool) or not isinstance(amount, int) or amount < 1:
                self.test.assertIs(raised(InvalidNumber, call, amount).value, amount)
            elif not own.move(-amount if name == 'undo' else amount):
                self.test.assertEqual(raised(NothingToUndo, call, amount).amount, amount)
            else:
                result = call() if amount == 1 and source.random() < 0.5 else call(amount)
        self.test.assertIsNone(result)
        return name

    def check(self):
        """Check everything that the sitting tells."""
        form, text = self.acted.now()
        self.test.assertEqual(self.sitting.document.text, text)
        self.test.assertEqual(self.sitting.sheet.text, oracle.sheet_text(form))
        self.test.assertEqual(self.sitting.grammar, self.grammar)
        self.test.assertEqual(len(self.sitting), self.acted.at)
        self.test.assertEqual(self.sitting.styles(), self.acted.styles())
        self.test.assertEqual(self.sitting.changed(), self.acted.changed())
        self.test.assertEqual(self.sitting.touched(), self.acted.touched())


class DrawnSittingsTest(unittest.TestCase):
    def test_histories(self):
        source = random.Random(161)
        done = {}
        for _ in range(220):
            play = Play(self, source)
            play.check()
            for _ in range(source.randrange(1, 11)):
                before = len(play.sitting), play.acted.at
                name = play.step()
                done[name, len(play.sitting) - before[0]] = done.get((name, len(play.sitting) - before[0]), 0) + 1
                play.check()
        for way in [('undo', -1), ('undo', -2), ('undo', -3), ('redo', 1), ('redo', 2), ('undo', 0), ('redo', 0)]:
            self.assertGreater(done.get(way, 0), 4, done)

    def test_clones(self):
        source = random.Random(162)
        for _ in range(60):
            play = Play(self, source)
            for _ in range(source.randrange(8)):
                play.step()
            copy = play.sitting.clone()
            self.assertIs(copy.__class__, Sitting)
            self.assertIsNot(copy, play.sitting)
            self.assertTrue(copy == play.sitting)
            self.assertEqual((copy.changed(), copy.touched(), copy.styles(), len(copy)),
                             (play.sitting.changed(), play.sitting.touched(), play.sitting.styles(), len(play.sitting)))
            # Both do the same by themselves; what one does is not seen by the other one.
            twin = Play(self, random.Random(1))
            twin.__dict__.update(play.__dict__)
            twin.sitting = copy
            twin.acted = acted.Acted(*play.acted.now())
            twin.acted.__dict__.update(play.acted.__dict__)
            for _ in range(6):
                source.choice([play, twin]).step()
                play.check()
                twin.check()

    def test_styles_are_those_from_the_beginning(self):
        source = random.Random(163)
        for _ in range(60):
            play = Play(self, source)
            for _ in range(5):
                play.step()
            self.assertEqual(play.sitting.styles(), styles(play.sitting.document, play.sitting.sheet))


class KnownSittingsTest(unittest.TestCase):
    GRAMMAR = parse_grammar('list : item*\nitem hot? : (link | item)*')
    SHEET = parse_sheet('own box none\nhand ink black\nitem.hot { box: red; ink: blue }')

    def sitting(self, text, sheet=SHEET):
        return Sitting(self.GRAMMAR, sheet, parse_document(text))

    def test_at_first(self):
        s = self.sitting('list(item.hot(link),item)')
        self.assertEqual((len(s), s.grammar.text, s.sheet.text, s.document.text),
                         (0, self.GRAMMAR.text, self.SHEET.text, 'list(item.hot(link),item)'))
        every = [(), (0,), (0, 0), (1,)]
        self.assertEqual((s.changed(), s.touched()), (every, every))
        # A call that raises an error changes nothing of this.
        raised(NothingToUndo, s.undo)
        raised(InvalidPart, s.edit, None)
        self.assertEqual((s.changed(), s.touched()), (every, every))
        self.assertEqual(s.styles()[1:3], [((0,), ('red', 'blue')), ((0, 0), ('none', 'blue'))])

    def test_an_edit(self):
        s = self.sitting('list(item(link),item)')
        s.edit(parse_document('list(item.hot(link),item)'))
        self.assertEqual(s.changed(), [(0,), (0, 0)])
        self.assertEqual(s.touched(), [(0,), (0, 0)])
        # The mark is another one, but neither style nor state tells it.
        s = self.sitting('list(item(link),item)', parse_sheet('own box none\nhand ink black\nlink { box: red }'))
        s.edit(parse_document('list(item.hot(link),item)'))
        self.assertEqual((s.changed(), s.touched()), ([], [(0,)]))

    def test_the_same_again(self):
        s = self.sitting('list(item)')
        s.edit(parse_document('list(item)'))
        s.restyle(parse_sheet(self.SHEET.text))
        self.assertEqual((len(s), s.changed(), s.touched()), (2, [], []))
        s.undo(2)
        self.assertEqual((len(s), s.changed(), s.touched()), (0, [], []))
        s.redo()
        self.assertEqual(len(s), 1)

    def test_new_nodes(self):
        # From the left and then from the right; what is between is new, with all below it.
        s = self.sitting('list(item,item,item)')
        s.edit(parse_document('list(item,item(link),item,item,item)'))
        self.assertEqual(s.changed(), [(1, 0), (3,), (4,)])
        s = self.sitting('list(item(link,item,link))')
        s.edit(parse_document('list(item(link,link,item(link),link))'))
        # link, and from the right link and item; the second link is new, and what is below the item.
        self.assertEqual(s.changed(), [(0, 1), (0, 2, 0)])
        s.undo()
        self.assertEqual(s.changed(), [])
        s = self.sitting('list(item(item(link,link)))')
        s.edit(parse_document('list(item(link,item(link,link)))'))
        self.assertEqual(s.changed(), [(0, 0)])
        # Each one from the right has a style of its own.
        s = self.sitting('list(item(item,item.hot,link))')
        s.edit(parse_document('list(item(link,item,item.hot,link))'))
        self.assertEqual(s.changed(), [(0, 0)])

    def test_restyling(self):
        s = self.sitting('list(item.hot(link),item)')
        # Another style at all hot items and below; another rule at the same.
        s.restyle(parse_sheet('own box none\nhand ink black\nitem.hot { box: red; ink: gray }'))
        self.assertEqual((s.changed(), s.touched()), ([(0,), (0, 0)], [(0,)]))
        # The rules match the same nodes, but are other ones by their layers.
        s.restyle(parse_sheet('own box none\nhand ink black\nlayer 1 item.hot { box: red; ink: gray }'))
        self.assertEqual((s.changed(), s.touched()), ([], [(0,)]))
        # The same rule at another place in the sheet.
        s.restyle(parse_sheet('own box none\nhand ink black\nlist { box: red }\nlayer 1 item.hot { box: red; ink: gray }'))
        self.assertEqual((s.changed(), s.touched()), ([()], [()]))
        s.undo(2)
        self.assertEqual((s.changed(), s.touched()), ([()], [(), (0,)]))
        self.assertEqual(len(s), 1)

    def test_an_edit_and_a_restyling_taken_back_at_once(self):
        s = self.sitting('list(item)')
        s.edit(parse_document('list(item,item.hot)'))
        s.restyle(parse_sheet('own box none\nhand ink black\nitem { box: red }'))
        s.undo(2)
        self.assertEqual((s.changed(), s.touched()), ([(0,)], [(0,)]))
        s.redo(2)
        self.assertEqual((s.changed(), s.touched()), ([(0,), (1,)], [(0,), (1,)]))

    def test_discarded(self):
        s = self.sitting('list')
        for text in ['list(item)', 'list(item,item)', 'list(item,item,item)']:
            s.edit(parse_document(text))
        s.undo(2)
        s.restyle(self.SHEET)
        self.assertEqual(raised(NothingToUndo, s.redo).amount, 1)
        s.undo()
        s.redo()
        s.undo()
        s.edit(parse_document('list(item.hot)'))
        self.assertEqual(raised(NothingToUndo, s.redo, 1).amount, 1)
        self.assertEqual(raised(NothingToUndo, s.undo, 3).amount, 3)
        s.undo(2)
        self.assertEqual((s.document.text, len(s)), ('list', 0))
        # What is refused discards nothing.
        raised(InvalidSheets, s.restyle, parse_sheet('own box none'))
        raised(InvalidDocument, s.edit, parse_document('item'))
        s.redo(2)
        self.assertEqual(s.document.text, 'list(item.hot)')

    def test_few_nodes_are_touched(self):
        # A chain: whether there is a marked node below is noted for all above.
        grammar = parse_grammar('a x? : a?')
        deep = 60
        text = '(a' * (deep - 1) + ')' * (deep - 1)
        path = (0,) * (deep - 1)
        plain = parse_document('a' + text)
        marked = plain.marked(path, ['x'])
        sheet = parse_sheet('own p n\na:has(.x) { p: m }')
        s = Sitting(grammar, sheet, plain)
        s.edit(marked)
        self.assertEqual(s.changed(), list(plain)[:-1])
        self.assertEqual(s.touched(), list(plain))
        s.edit(plain)
        self.assertEqual((s.changed(), s.touched()), (list(plain)[:-1], list(plain)))
        # For children alone: just the last two; and without a rule for it just the node itself.
        s = Sitting(grammar, parse_sheet('own p n\na:has(> .x) { p: m }'), plain)
        s.edit(marked)
        self.assertEqual((s.changed(), s.touched()), ([path[:-1]], [path[:-1], path]))
        s = Sitting(grammar, parse_sheet('own p n\na:has(> .y) { p: m }'), plain)
        s.edit(marked)
        self.assertEqual((s.changed(), s.touched()), ([], [path]))

    def test_a_node_in_a_row_of_equal_ones(self):
        many = 40
        row = parse_document('list(' + ','.join(['item'] * many) + ')')
        s = self.sitting(row.text)
        apply_edits(s, [('put', (), 0, 'item')])
        # All are matched from the left, so the last one is new, and the one before it is not the last one any more.
        self.assertEqual(s.changed(), [(many,)])
        self.assertEqual(s.touched(), [(many - 1,), (many,)])
        s = self.sitting(row.text, parse_sheet('own box none\nhand ink black\nitem:nth(2,1) { box: red }'))
        apply_edits(s, [('put', (), 3, 'item.hot')])
        self.assertEqual(s.changed(), [(many,)])
        self.assertEqual(s.touched(), [(3,), (many - 1,), (many,)])


class RefusedTest(unittest.TestCase):
    GRAMMAR = parse_grammar('a : b*\nb x y? : c?')
    SHEET = parse_sheet('own p n\nhand q n\nb { p: m }')

    def test_documents(self):
        for text, path in [('b.x', ()), ('a.x', ()), ('a(b)', (0,)), ('a(b.x,b.x.z)', (1,)), ('a(b.x(c,c),b)', (0,)),
                           ('a(b.x,c)', ()), ('a(b.x(c(d)))', (0, 0)), ('a(d)', ()), ('a(b.x,b.x(c.x))', (1, 0))]:
            document = parse_document(text)
            self.assertEqual(self.GRAMMAR.first_wrong(document), path)
            self.assertEqual(raised(InvalidDocument, Sitting, self.GRAMMAR, self.SHEET, document).path, path)
            s = Sitting(self.GRAMMAR, self.SHEET, parse_document('a(b.x)'))
            s.edit(parse_document('a(b.x,b.x)'))
            self.assertEqual(raised(InvalidDocument, s.edit, document).path, path)
            self.assertEqual((s.document.text, len(s), s.changed(), s.touched()), ('a(b.x,b.x)', 1, [(1,)], [(0,), (1,)]))

    def test_values_of_other_kinds(self):
        s = Sitting(self.GRAMMAR, self.SHEET, parse_document('a(b.x)'))
        for value in [*NO_OBJECTS, 'a(b.x)', self.GRAMMAR, self.SHEET, s]:
            self.assertIs(raised(InvalidPart, s.edit, value).value, value)
        for value in [*NO_OBJECTS, self.SHEET.text, self.GRAMMAR, s.document, s]:
            self.assertIs(raised(InvalidSheets, s.restyle, value).value, value)
        self.assertEqual((len(s), s.changed()), (0, [(), (0,)]))

    def test_sheets(self):
        s = Sitting(self.GRAMMAR, self.SHEET, parse_document('a(b.x)'))
        for text in ['', 'own p n', 'hand q n\nown p n', 'own p m\nhand q n', 'own p n\nown q n', 'own p n\nhand r n',
                     'own p n\nhand q n\nvar v', 'var p\nhand q n']:
            sheet = parse_sheet(text)
            self.assertIs(raised(InvalidSheets, s.restyle, sheet).value, sheet)
        self.assertEqual((s.sheet, len(s)), (self.SHEET, 0))
        s.restyle(parse_sheet('own p n\n\n  hand q n'))
        self.assertEqual((s.sheet.rules, len(s), s.changed(), s.touched()), ([], 1, [(0,)], [(0,)]))

    def test_amounts(self):
        s = Sitting(self.GRAMMAR, self.SHEET, parse_document('a'))
        s.edit(parse_document('a(b.x)'))
        for call in (s.undo, s.redo):
            for amount in [*NO_INTEGERS, 0, -1, -10 ** 29]:
                self.assertIs(raised(InvalidNumber, call, amount).value, amount)
            for amount in [2, 3, 10 ** 29]:
                self.assertEqual(raised(NothingToUndo, call, amount).amount, amount)
        self.assertEqual(raised(NothingToUndo, s.redo).amount, 1)
        self.assertEqual((len(s), s.changed()), (1, [(0,)]))


class EqualTest(unittest.TestCase):
    def test_equal(self):
        texts = ['a : b*\nb x? :', 'a : b*\nb  x? :']
        sheets = ['own p n\nb { p: m }', 'own p n\n*.x { p: m }']
        documents = ['a(b)', 'a(b.x)']
        made = {}
        for key in [(grammar, sheet, document, many) for grammar in texts for sheet in sheets for document in documents
                    for many in (0, 1, 2)]:
            s = Sitting(parse_grammar(key[0]), parse_sheet(key[1]), parse_document(key[2]))
            for _ in range(key[3]):
                s.edit(parse_document(key[2]))
            made[key] = s
        for key, one in made.items():
            for other, two in made.items():
                self.assertIs(one == two, key == other)
                self.assertIs(one != two, key != other)

    def test_other_histories(self):
        grammar, sheet = parse_grammar('a : b*'), parse_sheet('own p n')
        one = Sitting(grammar, sheet, parse_document('a'))
        two = Sitting(grammar, sheet, parse_document('a(b)'))
        one.edit(parse_document('a(b,b)'))
        self.assertFalse(one == two)
        two.restyle(sheet)
        self.assertFalse(one == two)
        two.undo()
        two.edit(parse_document('a(b,b)'))
        self.assertTrue(one == two)
        # What was taken back does not count.
        one.edit(parse_document('a'))
        one.undo()
        self.assertTrue(one == two)
        one.undo()
        two.undo()
        self.assertFalse(one == two)

    def test_values_of_other_kinds(self):
        s = Sitting(parse_grammar('a :'), parse_sheet(''), parse_document('a'))
        for value in [*NO_OBJECTS, s.grammar, s.sheet, s.document]:
            self.assertFalse(s == value)
            self.assertTrue(s != value)


class SharedTest(unittest.TestCase):
    def test_a_sitting_holds_on_to_no_list(self):
        s = Sitting(parse_grammar('a : b*'), parse_sheet('own p n'), parse_document('a(b)'))
        for call in (s.styles, s.changed, s.touched):
            wanted = call()
            call().clear()
            self.assertEqual(call(), wanted)
        self.assertEqual(s.styles(), [((), ('n',)), ((0,), ('n',))])


if __name__ == '__main__':
    unittest.main()

"""The console, beside the functions on a second sitting."""

import random
import unittest

import drawn
import oracle
import search
from common import NO_STRINGS, raised
from deadrules.answers import all_values, can_match, dead_rules, idle_pieces
from deadrules.console import Console
from deadrules.documents import parse_document
from deadrules.errors import (
    InvalidCommand, InvalidDocument, InvalidName, InvalidNumber, InvalidPart, InvalidPath, InvalidPiece, InvalidText,
    LimitExceeded, NothingToUndo)
from deadrules.grammars import parse_grammar
from deadrules.least import least_pieces, needed
from deadrules.sheets import parse_sheet
from deadrules.sittings import Sitting, apply_edits
from deadrules.styles import winners

GRAMMAR = parse_grammar('a : b*\nb x? y? : c*\nc x? :')
SHEET = parse_sheet('var v\nown p none\nb + b.x { p: m; v: 1 }\nc b { p: m }\n.x { v: inherit }\n.y c { v: 2 }')


def path_word(path):
    return '/'.join(map(str, path)) or '-'


def piece_word(piece):
    return '-' if piece is None else '.'.join(map(str, piece))


def answer_words(answer):
    return 'none' if answer is None else f'{answer[0].text} {path_word(answer[1])}'


def many_words(words):
    return ' '.join(words) or 'none'


def made(text='a(b,b.x(c))', sheet=SHEET):
    """Return a console, and a sitting that has nothing to do with it."""
    one, two = [Sitting(GRAMMAR, sheet, parse_document(text)) for _ in range(2)]
    return Console(one), two


class DrawnCommandsTest(unittest.TestCase):
    def test_all_commands(self):
        source = random.Random(171)
        run = {}
        for _ in range(120):
            while True:
                grammar = parse_grammar('\n'.join(drawn.grammar(source)))
                documents, _ = search.listed(grammar, 7, 200)
                if len(documents) > 3:
                    break
            sheet = parse_sheet(oracle.sheet_text(drawn.sheet(source, 4)))
            document = source.choice(documents)
            console = Console(Sitting(grammar, sheet, document))
            sitting = Sitting(grammar, sheet, document)
            for _ in range(25):
                command, wanted = self.draw(source, sitting, documents)
                try:
                    result = wanted()
                except (InvalidDocument, InvalidPath, InvalidNumber, NothingToUndo, InvalidPart, InvalidName, InvalidPiece) as error:
                    found = raised(error.__class__, console.execute, command)
                    self.assertEqual(found.__dict__, error.__dict__, command)
                else:
                    found = console.execute(command)
                    self.assertIs(found.__class__, str)
                    self.assertEqual(found, result, command)
                    name = command.split(' ')[0]
                    run[name] = run.get(name, 0) + 1
                self.assertEqual(console.execute('show'), sitting.document.text)
                self.assertEqual(len(console), len(sitting))
        self.assertEqual(len(run), 18 - 1)
        self.assertGreater(min(run.values()), 20, run)

    def draw(self, source, sitting, documents):
        """Return a command and a function that returns what it should return."""
        grammar, sheet = sitting.grammar, sitting.sheet
        path = source.choice([*sitting.document, *sitting.document, (5,)])
        number = source.randrange(4)
        kind = source.choice([*grammar.kinds, 'zz'])
        name = source.choice([*sheet.names, *sheet.names, 'zz'])
        piece = source.choice([*sheet.pieces(), *sheet.pieces(), (7, 0)])
        text = source.choice(documents).text
        part = source.choice(grammar.kinds)

        def style():
            if path not in sitting.document:
                raise InvalidPath(path)
            return ' '.join(value or '-' for value in dict(sitting.styles())[path])

        def done(call, *arguments):
            return lambda: call(*arguments) or 'ok'

        def edits(*edit):
            return lambda: apply_edits(sitting, [edit])

        return source.choice([
            (f'edit {text}', lambda: sitting.edit(parse_document(text)) or 'ok'),
            (f'put {path_word(path)} {number} {part}', edits('put', path, number, part)),
            (f'put {path_word(path)} 0 {part}', edits('put', path, 0, part)),
            (f'drop {path_word(path)}', edits('drop', path)),
            (f'rename {path_word(path)} {kind}', edits('rename', path, kind)),
            (f'style {path_word(path)}', style),
            (f'won {path_word(path)}', lambda: ' '.join(map(piece_word, winners(sitting.document, sheet, path)))),
            ('changed', lambda: many_words(map(path_word, sitting.changed()))),
            ('touched', lambda: many_words(map(path_word, sitting.touched()))),
            ('dead', lambda: many_words(map(str, dead_rules(grammar, sheet)))),
            ('idle', lambda: many_words(map(piece_word, idle_pieces(grammar, sheet)))),
            ('least', lambda: many_words(map(piece_word, least_pieces(grammar, sheet)))),
            (f'values {kind} {name}', lambda: many_words(value or '-' for value in all_values(grammar, sheet, kind, name))),
            (f'match {number}', lambda: answer_words(can_match(grammar, sheet, number))),
            (f'needs {piece_word(piece)}', lambda: answer_words(needed(grammar, sheet, piece))),
            ('show', lambda: sitting.document.text), ('undo', done(sitting.undo)), ('redo', done(sitting.redo)),
            (f'undo {number}', done(sitting.undo, number)), (f'redo {number}', done(sitting.redo, number))])


class KnownCommandsTest(unittest.TestCase):
    def test_results(self):
        console, _ = made()
        for command, result in [
                ('show', 'a(b,b.x(c))'), ('changed', '- 0 1 1/0'), ('touched', '- 0 1 1/0'), ('style -', '- none'),
                ('style 1', '1 m'), ('style 1/0', '1 none'), ('won 1', '0.1 0.0'), ('won 0', '- -'), ('won 1/0', '- -'),
                ('dead', '1'), ('idle', '1.0'), ('least', '0.0 0.1 3.0'), ('values b v', '- 1'), ('values b p', 'm none'),
                ('values a v', '-'), ('match 0', 'a(b,b.x) 1'), ('match 1', 'none'), ('needs 0.1', 'a(b,b.x) 1'),
                ('needs 1.0', 'none'), ('put 0 0 c.x', 'a(b(c.x),b.x(c))'), ('changed', '0/0'), ('touched', '0/0'),
                ('drop 1', 'a(b(c.x))'), ('rename 0/0 c', 'a(b(c.x))'), ('changed', 'none'), ('touched', 'none'),
                ('undo', 'ok'), ('undo 2', 'ok'), ('show', 'a(b,b.x(c))'), ('redo 3', 'ok'), ('edit a', 'ok'), ('undo 1', 'ok'),
                ('redo', 'ok'), ('show', 'a')]:
            self.assertEqual(console.execute(command), result, command)

    def test_nothing_to_tell(self):
        sitting = Sitting(parse_grammar('a x? : a?\nb :'), parse_sheet(''), parse_document('a(a)'))
        console = Console(sitting)
        for command, result in [('style -', ''), ('won 0', ''), ('dead', 'none'), ('idle', 'none'), ('least', 'none')]:
            self.assertEqual(console.execute(command), result)
        console = Console(Sitting(parse_grammar('a :\nb :'), parse_sheet('own p none\na { p: none }'), parse_document('a')))
        # A kind that cannot occur has no values; the word `none` is written likewise.
        for command, result in [('values b p', 'none'), ('values a p', 'none'), ('style -', 'none'), ('won -', '0.0'),
                                ('least', 'none'), ('match 0', 'a -'), ('needs 0.0', 'none')]:
            self.assertEqual(console.execute(command), result)

    def test_length(self):
        console, sitting = made()
        self.assertEqual(len(console), 0)
        for command, many in [('put - 0 b', 1), ('edit a(b)', 2), ('show', 2), ('undo 2', 0), ('redo', 1), ('rename 0 b', 2)]:
            console.execute(command)
            self.assertEqual(len(console), many)

    def test_it_keeps_its_sitting(self):
        sitting = Sitting(GRAMMAR, SHEET, parse_document('a'))
        one, two = Console(sitting), Console(sitting)
        one.execute('put - 0 b')
        self.assertEqual((two.execute('show'), len(two), len(sitting)), ('a(b)', 1, 1))
        sitting.undo()
        self.assertEqual((one.execute('show'), len(one)), ('a', 0))

    def test_texts(self):
        # TEXT is the rest of the command, with all blanks in it.
        console, _ = made()
        for command, text in [('edit ', ''), ('edit  a', ' a'), ('edit a ', 'a '), ('edit a b', 'a b'), ('put - 0 ', ''),
                              ('put - 0  b', ' b'), ('put - 0 b b', 'b b'), ('put - 0 - 0', '- 0'), ('edit edit', None)]:
            if text is None:
                self.assertEqual(raised(InvalidDocument, console.execute, command).path, ())
            else:
                self.assertEqual(raised(InvalidText, console.execute, command).value, text)
        self.assertEqual(console.execute('show'), 'a(b,b.x(c))')


class RefusedTest(unittest.TestCase):
    def refused(self, kind, fields, command):
        console, sitting = made()
        console.execute('put - 2 b')
        console.execute('undo')
        found = raised(kind, console.execute, command)
        self.assertEqual(found.__dict__, fields, command)
        if kind is InvalidCommand:
            self.assertIs(found.value, command)
        # Nothing changes, and a right command works.
        self.assertEqual((len(console), console.execute('show'), console.execute('changed')), (0, 'a(b,b.x(c))', 'none'))
        self.assertEqual(console.execute('redo'), 'ok')
        self.assertEqual(console.execute('show'), 'a(b,b.x(c),b)')

    def test_no_commands(self):
        for value in [*NO_STRINGS, ['show'], ('show',), b'show', 'a(b)']:
            self.refused(InvalidCommand, {'value': value}, value)
        for command in ['', ' ', 'Show', 'shows', 'sho', 'show ', ' show', 'show show', 'show  ', 'show\n', '\nshow', 'help', 'edit',
                        'edita', 'put', 'put -', 'put - 0', 'put -  0 b', 'put  - 0 b', 'put 0 b', 'put - x b', 'put x 0 b',
                        'put - -1 b', 'put - - b', 'drop', 'drop ', 'drop 0 ', 'drop  0', 'drop 0 0', 'drop x', 'rename', 'rename -',
                        'rename - ', 'rename -  b', 'rename - b ', 'rename - b c', 'rename b -', 'style', 'style ', 'style - ',
                        'style - -', 'style a', 'won', 'won ', 'won 0 1', 'changed ', 'changed 0', 'touched ', 'touched -', 'dead ',
                        'dead 0', 'idle ', 'idle 0.0', 'least ', 'least least', 'values', 'values b', 'values b ', 'values  p',
                        'values b  p', 'values b p ', 'values b p p', 'match', 'match ', 'match 0 ', 'match  0', 'match 0 0', 'match -',
                        'match a', 'match 0.0', 'match +1', 'match -1', 'match 1/0', 'needs', 'needs ', 'needs 0', 'needs 0.',
                        'needs .0', 'needs 0.0.0', 'needs 0.0 ', 'needs 0/0', 'needs 0 0', 'needs -', 'needs a.b', 'needs 0.-1',
                        'undo ', 'undo  1', 'undo 1 ', 'undo 1 1', 'undo -', 'undo -1', 'undo x', 'redo ', 'redo 1 1', 'redo +1',
                        'show - ', 'clone', 'restyle', 'mark - x', 'commit', 'undo\n', 'undo\n1']:
            self.refused(InvalidCommand, {'value': command}, command)

    def test_numbers(self):
        for number in ['00', '01', '007', '0000', '10000', '00000', '12345', '1 ', '1e1', '1_0', '1.', '']:
            for command in ['match {}', 'needs {}.0', 'needs 0.{}', 'undo {}', 'redo {}', 'put - {} b', 'drop {}', 'drop 0/{}',
                            'style {}', 'won {}/0', 'rename {}/0 b']:
                if command.startswith('put') and number == '1 ':
                    # Here the second blank belongs to TEXT.
                    continue
                self.refused(InvalidCommand, {'value': command.format(number)}, command.format(number))
        for path in ['/', '0/', '/0', '-/0', '0/-', '0//0', '--', '0-0', '0/0/', '.', '0.0', '(0,)']:
            for command in ['style {}', 'won {}', 'drop {}', 'rename {} b', 'put {} 0 b']:
                self.refused(InvalidCommand, {'value': command.format(path)}, command.format(path))

    def test_errors_of_what_is_called(self):
        deep = '/'.join(['0'] * 300)
        for command, kind, fields in [
                ('edit b', InvalidDocument, {'path': ()}), ('edit a(b(b))', InvalidDocument, {'path': (0,)}),
                ('edit A', InvalidText, {'value': 'A'}), ('put 7 0 b', InvalidPath, {'path': (7,)}),
                ('put - 3 b', InvalidNumber, {'value': 3}), ('put - 9999 B', InvalidNumber, {'value': 9999}),
                ('put - 0 B', InvalidText, {'value': 'B'}), ('put - 0 c', InvalidDocument, {'path': ()}),
                ('put 9999/0 0 B', InvalidPath, {'path': (9999, 0)}), ('drop -', InvalidPath, {'path': ()}),
                ('drop 1/1', InvalidPath, {'path': (1, 1)}), ('rename - b', InvalidDocument, {'path': ()}),
                ('rename 0 B', InvalidPart, {'value': 'B'}), ('rename 0 -', InvalidPart, {'value': '-'}),
                ('rename 2 B', InvalidPath, {'path': (2,)}), ('style 2', InvalidPath, {'path': (2,)}),
                ('style 1/0/0', InvalidPath, {'path': (1, 0, 0)}), ('won 2', InvalidPath, {'path': (2,)}),
                (f'won {deep}', InvalidPath, {'path': (0,) * 300}), ('values z p', InvalidPart, {'value': 'z'}),
                ('values z z', InvalidPart, {'value': 'z'}), ('values b z', InvalidName, {'name': 'z'}),
                ('values b b', InvalidName, {'name': 'b'}), ('match 4', InvalidNumber, {'value': 4}),
                ('match 9999', InvalidNumber, {'value': 9999}), ('needs 4.0', InvalidPiece, {'value': (4, 0)}),
                ('needs 0.2', InvalidPiece, {'value': (0, 2)}), ('undo 0', InvalidNumber, {'value': 0}),
                ('redo 0', InvalidNumber, {'value': 0}), ('undo', NothingToUndo, {'amount': 1}),
                ('undo 1', NothingToUndo, {'amount': 1}), ('redo 2', NothingToUndo, {'amount': 2}),
                ('redo 9999', NothingToUndo, {'amount': 9999}),
                ('edit a(' + 'b,' * 199 + 'b)', LimitExceeded, {'limit': 200}),
                ('put - 0 b(' + 'c,' * 199 + 'c)', LimitExceeded, {'limit': 200}),
                ('put - 0 b(' + 'c,' * 195 + 'c)', LimitExceeded, {'limit': 200})]:
            self.refused(kind, fields, command)

    def test_limits_of_all_documents(self):
        sheet = parse_sheet('own p n\n.p' + ' > *' * 10 + ' > a { p: m }')
        console = Console(Sitting(parse_grammar('a p? : a?'), sheet, parse_document('a')))
        for command in ['dead', 'idle', 'least', 'values a p', 'match 0', 'needs 0.0']:
            self.assertEqual(raised(LimitExceeded, console.execute, command).limit, 4000)
        self.assertEqual(console.execute('style -'), 'n')


if __name__ == '__main__':
    unittest.main()

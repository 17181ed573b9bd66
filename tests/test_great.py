"""Great documents of drawn grammars: what is told of all documents holds for them."""

import random
import unittest

import drawn
import oracle
from deadrules.answers import all_values, dead_rules, idle_pieces
from deadrules.documents import parse_document
from deadrules.grammars import parse_grammar
from deadrules.least import least_sheet
from deadrules.papers import paper, state
from deadrules.sheets import parse_sheet
from deadrules.styles import matching, styles, winners

# Each kind with its marks and its rows of children, as functions of a number of repetitions.
GRAMMARS = [
    ('a : b* c?\nb x? y? : (b | c)?\nc x? :',
     {'a': lambda many, flag: ['b'] * many + ['c'] * flag, 'b': lambda many, flag: ['bc'[flag]][:many],
      'c': lambda many, flag: []}, {'b': 'xy', 'c': 'x'}),
    ('a x? : (b c)*\nb : c* | b\nc y? : b? b?',
     {'a': lambda many, flag: ['b', 'c'] * (many // 2), 'b': lambda many, flag: ['b'] if flag else ['c'] * many,
      'c': lambda many, flag: ['b'] * min(2, many)}, {'a': 'x', 'c': 'y'}),
    ('a : (b | c)+\nb x? : a?\nc y? :',
     {'a': lambda many, flag: ['b'] * max(1, many) + ['c'] * flag + ['b', 'c'] * (many // 4), 'b': lambda many, flag: ['a'] * flag,
      'c': lambda many, flag: []}, {'b': 'x', 'c': 'y'}),
]


def derived(source, rows, marks, kind, left):
    """Return the text of a derived part; `left` is a list with the number of nodes that are left."""
    left[0] -= 1
    head = '.'.join([kind, *[mark for mark in marks.get(kind, '') if source.random() < 0.4]])
    children = rows[kind](source.randrange(8) if left[0] > 8 else 0, left[0] > 8 and source.random() < 0.5)
    texts = [derived(source, rows, marks, child, left) for child in children]
    return head + ('(' + ','.join(texts) + ')' if texts else '')


def documents(source, grammar, rows, marks):
    """Return some derived documents of 20 to 60 nodes."""
    found = []
    while len(found) < 6:
        document = parse_document(derived(source, rows, marks, 'a', [45]))
        if 20 <= document.size <= 60 and grammar.first_wrong(document) is None:
            found.append(document)
    return found


class GreatDocumentsTest(unittest.TestCase):
    def test_all_that_is_told_of_them(self):
        source = random.Random(121)
        matched = 0
        for text, rows, marks in GRAMMARS:
            grammar = parse_grammar(text)
            for _ in range(25):
                sheet = parse_sheet(oracle.sheet_text(drawn.sheet(source, 5)))
                values, states = map(dict, paper(grammar, sheet))
                dead, idle = dead_rules(grammar, sheet), idle_pieces(grammar, sheet)
                told = {(kind, name): all_values(grammar, sheet, kind, name) for kind in 'abc' for name in sheet.names}
                least = least_sheet(grammar, sheet)
                for document in documents(source, grammar, rows, marks):
                    self.assertEqual(styles(document, least), styles(document, sheet))
                    looks = dict(styles(document, sheet))
                    for path in list(document)[source.randrange(4)::4]:
                        self.assertFalse(set(dead) & set(matching(document, sheet, path)))
                        self.assertFalse(set(idle) & set(winners(document, sheet, path)))
                        for name, value in zip(sheet.names, looks[path]):
                            self.assertIn(value, told[document.kind(path), name])
                        one = state(sheet, document, path)
                        inside = document.part(path).size
                        self.assertLessEqual(values[one[0]], inside)
                        self.assertLessEqual(states[one], document.size - inside)
                        matched += len(matching(document, sheet, path))
        self.assertGreater(matched, 3000)


if __name__ == '__main__':
    unittest.main()

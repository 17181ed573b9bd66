"""Grammars against a second way of reading models: as the sets of all their short rows."""

import itertools
import random
import re
import unittest

from deadrules.documents import parse_document
from deadrules.grammars import parse_grammar

KINDS = ['a', 'b', 'c']
LONGEST = 5


def joined(ones, others):
    """Return the rows that are one of each, as long as they are short."""
    return {one + other for one in ones for other in others if len(one + other) <= LONGEST}


def repeated(rows, sign):
    """Return the rows behind a sign, or without one."""
    if sign in ('', '?'):
        return rows | {()} if sign else rows
    found = {()} if sign == '*' else set()
    more = rows
    while not more <= found:
        found = found | more
        more = joined(found, rows)
    return found


def random_part(source, depth):
    """Return the text and the rows of a name or of a model in brackets, with or without a sign behind it."""
    name = source.choice(KINDS)
    text, rows = name, {(name,)}
    if depth > 0 and source.random() < 0.4:
        text, rows = random_model(source, depth - 1)
        text = f'({text})'
    sign = source.choice(['', '', '', '?', '*', '+'])
    return text + source.choice(['', ' ']) + sign, repeated(rows, sign)


def random_model(source, depth):
    """Return the text and the rows of choices of rows of parts, some of them empty."""
    texts, found = [], set()
    for _ in range(source.choice([1, 1, 1, 2, 2, 3])):
        parts = [random_part(source, depth) for _ in range(source.choice([0, 1, 1, 2, 2, 3]))]
        texts.append(' '.join([text for text, _ in parts]))
        rows = {()}
        for _, more in parts:
            rows = joined(rows, more)
        found |= rows
    return source.choice(['|', ' | ']).join(texts), found


def limited_model(source):
    while True:
        model, rows = random_model(source, 3)
        if len(re.findall('[a-z]+', model)) <= 12:
            return model, rows


def trees(size):
    """Return all shapes of a size as nested tuples."""
    return [tuple(row) for row in rows_of_trees(size - 1)]


def rows_of_trees(size):
    if size == 0:
        return [[]]
    return [[first, *rest] for many in range(1, size + 1) for first in trees(many)
            for rest in rows_of_trees(size - many)]


def labelled(tree, heads):
    """Return all texts of a shape whose nodes have these heads."""
    below = [labelled(child, heads) for child in tree]
    found = []
    for head in heads:
        for row in itertools.product(*below):
            found.append(head + (f'({",".join(row)})' if row else ''))
    return found


class RandomTest(unittest.TestCase):
    def test_rows_of_random_models(self):
        source = random.Random(3)
        rows = [row for many in range(LONGEST + 1) for row in itertools.product(KINDS, repeat=many)]
        for _ in range(400):
            model, wanted = limited_model(source)
            grammar = parse_grammar(f'a : {model}')
            kinds = grammar.kinds
            self.assertEqual(kinds, list(dict.fromkeys(['a', *re.findall('[a-z]+', model)])))
            for row in rows:
                self.assertIs(grammar.fits('a', row), row in wanted, (model, row))

    def test_documents_of_random_grammars(self):
        source = random.Random(4)
        heads = ['a', 'b', 'b.m', 'c', 'c.m', 'c.n', 'c.m.n']
        everything = [text for size in range(1, 5) for tree in trees(size) for text in labelled(tree, heads)]
        documents = [parse_document(text) for text in everything if text.startswith('a')]
        for _ in range(25):
            models = {kind: limited_model(source) for kind in KINDS}
            lines = [f'a : {models["a"][0]}', f'b m? : {models["b"][0]}', f'c n m? : {models["c"][0]}']
            grammar = parse_grammar('\n'.join(lines))
            found = [document for document in documents if self.first_wrong(models, document) is None]
            for document in documents[::7]:
                self.assertEqual(grammar.first_wrong(document), self.first_wrong(models, document))
            for most in range(5):
                expected = [document for document in found if document.size <= most]
                expected = sorted(expected, key=lambda document: (document.size, document.text))
                self.assertEqual(grammar.documents(most), expected)

    def first_wrong(self, models, document):
        marks = {'a': [()], 'b': [(), ('m',)], 'c': [('n',), ('m', 'n')]}
        for path in document:
            kind = document.kind(path)
            row = tuple(document.kind((*path, index)) for index in range(document.width(path)))
            if document.marks(path) not in marks[kind] or row not in models[kind][1]:
                return path
        return None

    def test_least_of_random_grammars(self):
        source = random.Random(5)
        for _ in range(200):
            lines = [f'{kind} : {limited_model(source)[0]}' for kind in KINDS]
            least = {kind: parse_grammar('\n'.join(lines)).least(kind) for kind in KINDS}
            for at, kind in enumerate(KINDS):
                grammar = parse_grammar('\n'.join(lines[at:] + lines[:at]))
                self.assertEqual(grammar.root, kind)
                if least[kind] is None or least[kind] > 5:
                    self.assertEqual(grammar.documents(5), [])
                else:
                    self.assertEqual(grammar.documents(least[kind] - 1), [])
                    self.assertGreater(len(grammar.documents(least[kind])), 0)


if __name__ == '__main__':
    unittest.main()

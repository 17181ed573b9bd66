"""Grammars against a second way of reading models: as regular expressions."""

import itertools
import random
import re
import unittest

from deadrules.documents import parse_document
from deadrules.grammars import parse_grammar

KINDS = ['a', 'b', 'c']


def random_model(source, depth):
    choice = source.randrange(8) if depth > 0 else 0
    if choice < 2:
        return source.choice(KINDS)
    if choice == 2:
        return ''
    if choice == 3:
        return f'({random_model(source, depth - 1)})'
    if choice == 4:
        return f'({random_model(source, depth - 1)}){source.choice("?*+")}'
    if choice == 5:
        return source.choice(KINDS) + source.choice(['', ' ']) + source.choice('?*+')
    sign = source.choice([' ', ' | ', '|'])
    return random_model(source, depth - 1) + sign + random_model(source, depth - 1)


def limited_model(source):
    while True:
        model = random_model(source, 4)
        if len(re.findall('[a-z]+', model)) <= 12:
            return model


def expression(model):
    """Return the regular expression of a model, in which each name has a comma behind it."""
    text = re.sub('([a-z]+)', r'(?:\1,)', model.replace('(', '(?:'))
    return re.compile(text.replace(' ', ''))


def is_row(model, row):
    return expression(model).fullmatch(''.join([f'{name},' for name in row])) is not None


def trees(size):
    """Return all shapes of a size as nested tuples."""
    return [tuple(row) for row in rows_of_trees(size - 1)]


def rows_of_trees(size):
    if size == 0:
        return [[]]
    return [[first, *rest] for many in range(1, size + 1) for first in trees(many)
            for rest in rows_of_trees(size - many)]


def labelled(tree, heads):
    """Return all texts of a shape whose nodes have these heads."""
    below = [labelled(child, heads) for child in tree]
    found = []
    for head in heads:
        for row in itertools.product(*below):
            found.append(head + (f'({",".join(row)})' if row else ''))
    return found


class RandomTest(unittest.TestCase):
    def test_rows_of_random_models(self):
        source = random.Random(3)
        rows = [row for many in range(5) for row in itertools.product(KINDS, repeat=many)]
        for _ in range(300):
            model = limited_model(source)
            grammar = parse_grammar(f'a : {model}')
            kinds = grammar.kinds
            self.assertEqual(kinds, list(dict.fromkeys(['a', *re.findall('[a-z]+', model)])))
            for row in rows:
                self.assertIs(grammar.fits('a', row), is_row(model, row), (model, row))

    def test_documents_of_random_grammars(self):
        source = random.Random(4)
        heads = ['a', 'b', 'b.m', 'c', 'c.m', 'c.n', 'c.m.n']
        everything = [text for size in range(1, 5) for tree in trees(size) for text in labelled(tree, heads)]
        documents = [parse_document(text) for text in everything if text.startswith('a')]
        for _ in range(25):
            models = {kind: limited_model(source) for kind in KINDS}
            lines = [f'a : {models["a"]}', f'b m? : {models["b"]}', f'c n m? : {models["c"]}']
            grammar = parse_grammar('\n'.join(lines))
            found = [document for document in documents if self.first_wrong(models, document) is None]
            for document in documents[::7]:
                self.assertEqual(grammar.first_wrong(document), self.first_wrong(models, document))
            for most in range(5):
                expected = [document for document in found if document.size <= most]
                expected = sorted(expected, key=lambda document: (document.size, document.text))
                self.assertEqual(grammar.documents(most), expected)

    def first_wrong(self, models, document):
        marks = {'a': [()], 'b': [(), ('m',)], 'c': [('n',), ('m', 'n')]}
        for path in document:
            kind = document.kind(path)
            row = [document.kind((*path, index)) for index in range(document.width(path))]
            if document.marks(path) not in marks[kind] or not is_row(models[kind], row):
                return path
        return None

    def test_least_of_random_grammars(self):
        source = random.Random(5)
        for _ in range(200):
            lines = [f'{kind} : {limited_model(source)}' for kind in KINDS]
            least = {kind: parse_grammar('\n'.join(lines)).least(kind) for kind in KINDS}
            for at, kind in enumerate(KINDS):
                grammar = parse_grammar('\n'.join(lines[at:] + lines[:at]))
                self.assertEqual(grammar.root, kind)
                if least[kind] is None or least[kind] > 5:
                    self.assertEqual(grammar.documents(5), [])
                else:
                    self.assertEqual(grammar.documents(least[kind] - 1), [])
                    self.assertGreater(len(grammar.documents(least[kind])), 0)


if __name__ == '__main__':
    unittest.main()

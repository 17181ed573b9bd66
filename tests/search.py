"""Own searches through all small documents of a grammar, with the styles of oracle.py."""

import collections

import oracle
from deadrules.errors import LimitExceeded

Seen = collections.namedtuple('Seen', 'document path kind matching winners style')


def listed(grammar, most=6, many=60):
    """Return the list of all documents of a grammar up to a size, and this size.

    It is the greatest one up to the given size for which there are not too many.
    """
    found = []
    for size in range(1, most + 1):
        try:
            more = grammar.documents(size)
        except LimitExceeded:
            return found, size - 1
        if len(more) > many:
            return found, size - 1
        found = more
    return found, most


def seen(document, sheet):
    """Return what oracle.py tells of all nodes of a document; the sheet has the form that is used there."""
    nodes = oracle.nodes_of(document)
    return [Seen(document, path, nodes[path][0], oracle.matching(nodes, path, sheet), oracle.winners(nodes, path, sheet),
                 tuple(oracle.style(nodes, path, sheet).values())) for path in document]


def all_seen(documents, sheet):
    return [row for document in documents for row in seen(document, sheet)]


def check_answer(test, grammar, answer, sizes, most, shows):
    """Check an answer beside the sizes of the documents up to a size that show the same.

    `shows` tells whether a node of a document shows it.
    """
    if answer is None:
        test.assertEqual(sizes, [])
        return
    test.assertIsInstance(answer, tuple)
    document, path = answer
    test.assertIsNone(grammar.first_wrong(document))
    test.assertIn(path, document)
    test.assertTrue(shows(document, path), (document.text, path))
    if sizes:
        test.assertEqual(document.size, min(sizes))
    else:
        test.assertGreater(document.size, most)

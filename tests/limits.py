"""Grammars and sheets whose papers have a known number of rows, or whose documents have a known size."""

NAMES = 'abcdefgh'


def deep_grammar(widths, before=''):
    """Return the text of a grammar with one document, or one more: each node of a kind has so many of the next one."""
    rows = [f'{kind} : ' + ' '.join([below] * many) for kind, below, many in zip(NAMES, NAMES[1:], widths)]
    return '\n'.join([rows[0] + before, *rows[1:]])


def deep_size(widths):
    """Return the size of the document."""
    size = 1
    for many in reversed(widths):
        size = 1 + many * size
    return size


def widths_of(size, source):
    """Return drawn widths from one to six of a document of this size."""
    while True:
        widths = [source.randrange(1, 7) for _ in range(source.randrange(1, 8))]
        if deep_size(widths) == size:
            return widths


# For each kind of a chain how many marks it has that it can lack, and how many of them are told below it.
CHAIN = [(4, 4), (0, 0), (3, 3), (1, 1), (1, 1), (1, 1), (1, 0)]


def chain(levels, form='own p n', value='m'):
    """Return the texts of a grammar and of a sheet, and the number of their states."""
    lines, rules = [], [form]
    states, above = 0, 1
    for at, (marks, told) in enumerate(levels):
        words = [mark + '?' for mark in 'wxyz'[:marks]]
        lines.append(' '.join([NAMES[at], *words, ':', NAMES[at + 1] if at + 1 < len(levels) else '']))
        rules += [f'{NAMES[at]}.{mark} * {{ p: {value} }}' for mark in 'wxyz'[:told]]
        states += above * 2 ** marks
        above *= 2 ** told
    return '\n'.join(lines), '\n'.join(rules), states


def values(root, levels):
    """Return the texts of a grammar and of a sheet, and the number of their values.

    The grammar has one document, or some that are one node with marks. Below no node can stand kinds one below the
    other, for which it is told which marks a child has, and which ones some node below.
    """
    kinds = 'bcdefgh'[:len(levels)]
    words = [''.join(f' {mark}?' for mark in 'wxyz'[:many]) for many in [root, *levels]]
    lines = [f'a{words[0]} :']
    lines += [f'{kind}{marks} : {below}' for kind, marks, below in zip(kinds, words[1:], [*kinds[1:], ''])]
    rules = [f'a:has(> .{mark}):has(.{mark}) {{ p: m }}' for mark in 'wxyz']
    many = 2 ** root
    noted = {(0, 0)}
    for marks in reversed(levels):
        many += 2 ** marks * len(noted)
        noted = {(child, child | deep) for child in range(2 ** marks) for _, deep in noted}
    return '\n'.join(lines), '\n'.join(['own p n', *rules]), many


def steps(many, mark='p', value='m'):
    """Return the text of a sheet with one selector of so many compounds: whether an ancestor has a mark."""
    return f'own p n\n.{mark}' + ' > *' * (many - 2) + f' > a {{ p: {value} }}'

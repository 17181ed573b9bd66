"""Drawn documents, selectors and sheets, in the form of oracle.py."""

from oracle import compound_text, many, part_text

KINDS = ['a', 'b', 'c']
MARKS = ['x', 'y']
JOINS = [' ', '>', '+', '~']
LETTERS = 'abcdefghijklmnopqrstuvwxyz'
WORDS = ['red', 'blue', 'big2', '0', 'or', 'layer', 'a']


def document_text(source, deep=3, wide=3):
    """Return the text of a document of up to so many levels, with up to so many children a node."""
    text = '.'.join([source.choice(KINDS), *[mark for mark in MARKS if source.random() < 0.3]])
    width = source.randrange(wide + 1) if deep > 1 else 0
    if width:
        text += '(' + ','.join(document_text(source, deep - 1, wide) for _ in range(width)) + ')'
    return text


def plain_part(source):
    word = source.choice(['.', '.', 'first', 'last', 'nth'])
    if word == '.':
        return ('.', source.choice(MARKS))
    if word == 'nth':
        return ('nth', source.randrange(5), source.randrange(5))
    return (word,)


def part(source, inner):
    choice = source.randrange(8)
    if choice == 0:
        return ('not', ('kind', source.choice(KINDS)))
    if choice == 1:
        return ('not', plain_part(source))
    if choice < 4 and not inner:
        return ('has', row(source, source.choice(JOINS), 3, True))
    return plain_part(source)


def compound(source, inner):
    kind = source.choice([None, None, *KINDS])
    return (kind, [part(source, inner) for _ in range(source.choice([0, 0, 1, 1, 2]))])


def row(source, first, most, inner):
    width = source.randrange(1, most + 1)
    return [(source.choice(JOINS) if at else first, compound(source, inner)) for at in range(width)]


def selector(source, most=3):
    """Return a selector of up to so many compounds, and of up to twelve with those in brackets."""
    while True:
        found = row(source, '', most, False)
        if many(found) <= 12:
            return found


def blanks(source):
    return ' ' * source.choice([0, 0, 1, 2])


def loose_part(source, one):
    """Return the text of a part with blanks where they may stand."""
    def gap():
        return blanks(source)
    if one[0] == 'nth':
        return f':nth({gap()}{one[1]}{gap()},{gap()}{one[2]}{gap()})'
    if one[0] == 'not':
        return f':not({gap()}{loose_part(source, one[1])}{gap()})'
    if one[0] == 'has':
        return f':has({gap()}{loose_text(source, one[1])}{gap()})'
    return part_text(one)


def loose_text(source, one):
    """Return the text of a selector or a relative with blanks where they may stand, and with `*` before parts."""
    text = ''
    for at, (join, (kind, parts)) in enumerate(one):
        if join in ('>', '+', '~'):
            text += blanks(source) + join + blanks(source)
        elif at:
            text += ' ' + blanks(source)
        if parts:
            text += kind or source.choice(['', '*'])
            text += ''.join(loose_part(source, other) for other in parts)
        else:
            text += compound_text((kind, parts))
    return text


def properties(source, most=4, forms=('var', 'hand', 'own')):
    """Return up to so many properties, most often with a variable among the first ones."""
    names = source.sample(['p', 'q', 'tone', 'box', 'or', 'layer'], source.randrange(1, most + 1))
    found = []
    for name in names:
        form = source.choice(forms)
        found.append((form, name, None if form == 'var' else source.choice(WORDS)))
    return found


def value(source, variables):
    choice = source.randrange(6)
    if choice == 0:
        return 'inherit'
    if choice < 4 and variables:
        name = source.choice(variables)
        return '$' + name + source.choice(['', ' or ' + source.choice(WORDS)])
    return source.choice(WORDS)


def rule(source, lines, layers=(0, 0, 1, 9), strong=(False, False, True)):
    names = [name for _, name, _ in lines]
    declarations = []
    for name in source.sample(names, source.randrange(1, len(names) + 1)):
        variables = [one for form, one, _ in lines[:names.index(name)] if form == 'var']
        declarations.append((name, value(source, variables), source.choice(strong)))
    selectors = [selector(source, source.choice([1, 1, 2])) for _ in range(source.choice([1, 1, 2]))]
    return (source.choice(layers), selectors, declarations)


def sheet(source, most=6, **kept):
    """Return a sheet of up to four properties and so many rules."""
    lines = properties(source)
    return (lines, [rule(source, lines, **kept) for _ in range(source.randrange(most + 1))])


def loose_sheet(source, one):
    """Return the text of a sheet with blanks and empty lines where they may stand."""
    def gap():
        return blanks(source)
    lines = []
    for line in one[0]:
        lines.append(gap() + (' ' + gap()).join(word for word in line if word) + gap())
    for layer, selectors, declarations in one[1]:
        text = gap()
        if layer or source.random() < 0.3:
            text += f'layer {gap()}{layer} {gap()}'
        text += f'{gap()},{gap()}'.join(loose_text(source, other) for other in selectors)
        body = []
        for name, worth, strong in declarations:
            sign = f'{gap()}!' if strong else ''
            body.append(f'{gap()}{name}{sign}{gap()}:{gap()}' + worth.replace(' ', ' ' + gap()) + gap())
        lines.append(text + gap() + '{' + ';'.join(body) + '}' + gap())
    for _ in range(source.randrange(3)):
        lines.insert(source.randrange(len(lines) + 1), gap())
    return '\n'.join(lines)


def model(source, kinds, deep=2):
    """Return the text of a model of kinds, with brackets up to so many levels deep."""
    choices = []
    for _ in range(source.choice([1, 1, 1, 2])):
        parts = []
        for _ in range(source.choice([0, 1, 1, 2, 2])):
            one = source.choice(kinds)
            if deep > 1 and source.random() < 0.3:
                one = '(' + model(source, kinds, deep - 1) + ')'
            parts.append(one + source.choice(['', '', '', '?', '*', '+']))
        choices.append(' '.join(parts))
    return ' | '.join(choices)


def grammar(source, kinds=KINDS, marks=MARKS):
    """Return the lines of a grammar of up to so many kinds, the first one of them the root.

    Mostly a model has only the kinds behind its own, so that there are finite documents.
    """
    many = source.randrange(1, len(kinds) + 1)
    lines = []
    for at, kind in enumerate(kinds[:many]):
        words = [kind]
        for mark in marks:
            words += source.choice([[], [], [mark + '?'], [mark + '?'], [mark]])
        below = list(kinds[at + 1:many]) or [kind]
        if source.random() < 0.3:
            below += source.sample(kinds[:many], 1)
        while True:
            text = model(source, below)
            if sum(sign in LETTERS for sign in text) <= 12:
                break
        if at + 1 == many and source.random() < 0.7:
            text = ''
        lines.append(' '.join([*words, ':', text]))
    return lines


def has_relative(selectors):
    return any(part[0] == 'has' for one in selectors for _, (_, parts) in one for part in parts)


def small_sheet(source):
    """Return a sheet of up to two properties and two rules of up to two compounds, mostly with a relative."""
    while True:
        lines = properties(source, 2)
        found = (lines, [rule(source, lines) for _ in range(source.choice([1, 2, 2]))])
        if source.random() < 0.2 or any(has_relative(selectors) for _, selectors, _ in found[1]):
            return found

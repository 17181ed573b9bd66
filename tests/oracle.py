"""Selectors and styles a second time, by the words of the document alone.

Here a selector is a list of tuples (join, compound), a compound a tuple of a
kind or None and a list of parts, and a part a tuple: ('.', mark), ('first',),
('last',), ('nth', a, b), ('not', simple), ('has', relative). A sheet is a tuple
of a list of properties (form, name, default) and of a list of rules
(layer, selectors, declarations).
"""


def nodes_of(document):
    """Return the dict of the paths with the kinds and marks."""
    return {path: (document.kind(path), document.marks(path)) for path in document}


def siblings(nodes, path):
    """Return the paths of the children of the parent of a node."""
    if not path:
        return [()]
    return sorted(one for one in nodes if len(one) == len(path) and one[:-1] == path[:-1])


def number(nodes, path):
    return siblings(nodes, path).index(path) + 1


def before(nodes, path, join):
    """Return the paths of the nodes from which a join leads to a node."""
    row = siblings(nodes, path)
    at = row.index(path)
    if join == ' ':
        return [path[:many] for many in range(len(path))]
    if join == '>':
        return [path[:-1]] if path else []
    if join == '+':
        return row[at - 1:at] if at else []
    return row[:at]


def fits_part(nodes, path, part):
    word = part[0]
    if word == '.':
        return part[1] in nodes[path][1]
    if word == 'kind':
        return part[1] == nodes[path][0]
    if word == 'first':
        return siblings(nodes, path)[0] == path
    if word == 'last':
        return siblings(nodes, path)[-1] == path
    if word == 'nth':
        return number(nodes, path) in [part[1] * n + part[2] for n in range(300)]
    if word == 'not':
        return not fits_part(nodes, path, part[1])
    return leads(nodes, path, part[1])


def leads(nodes, path, relative):
    """Return whether a relative leads from a node to nodes that fit."""
    if not relative:
        return True
    join, compound = relative[0]
    return any(path in before(nodes, one, join) and fits_compound(nodes, one, compound)
               and leads(nodes, one, relative[1:]) for one in nodes)


def fits_compound(nodes, path, compound):
    kind, parts = compound
    return kind in (None, nodes[path][0]) and all(fits_part(nodes, path, part) for part in parts)


def fits(nodes, path, selector):
    """Return whether a node fits a selector."""
    join, compound = selector[-1]
    if not fits_compound(nodes, path, compound):
        return False
    if len(selector) == 1:
        return True
    return any(fits(nodes, one, selector[:-1]) for one in before(nodes, path, join))


def weight(selector):
    return (sum(len(parts) for _, (_, parts) in selector), sum(kind is not None for _, (kind, _) in selector))


def many(selector):
    """Return the number of the compounds."""
    return sum(1 + sum(many(part[1]) for part in parts if part[0] == 'has') for _, (_, parts) in selector)


def part_text(part):
    if part[0] == '.':
        return '.' + part[1]
    if part[0] == 'kind':
        return part[1]
    if part[0] == 'nth':
        return f':nth({part[1]},{part[2]})'
    if part[0] == 'not':
        return f':not({part_text(part[1])})'
    if part[0] == 'has':
        return f':has({selector_text(part[1])})'
    return f':{part[0]}'


def compound_text(compound):
    kind, parts = compound
    return ((kind or '') + ''.join(part_text(part) for part in parts)) or '*'


def selector_text(selector):
    """Return the text of a selector or a relative as the document wants it."""
    text = ''
    for at, (join, compound) in enumerate(selector):
        if join in ('>', '+', '~'):
            text += f' {join} ' if at else f'{join} '
        elif at:
            text += ' '
        text += compound_text(compound)
    return text


def sheet_text(sheet):
    """Return the text of a sheet as the document wants it."""
    properties, rules = sheet
    lines = [' '.join(word for word in line if word) for line in properties]
    for layer, selectors, declarations in rules:
        row = ', '.join(selector_text(one) for one in selectors)
        body = '; '.join(f'{name}!: {value}' if strong else f'{name}: {value}' for name, value, strong in declarations)
        lines.append((f'layer {layer} ' if layer else '') + row + ' { ' + body + ' }')
    return '\n'.join(lines)


def ranks(nodes, path, sheet, name):
    """Return the dict of the ranks of the pieces of a property that match a node."""
    found = {}
    for at, (layer, selectors, declarations) in enumerate(sheet[1]):
        weights = [weight(one) for one in selectors if fits(nodes, path, one)]
        for index, (one, _, strong) in enumerate(declarations):
            if one == name and weights:
                found[(at, index)] = (strong, layer, max(weights), at, index)
    return found


def winner(nodes, path, sheet, name):
    found = ranks(nodes, path, sheet, name)
    return max(found, key=found.get, default=None)


def winners(nodes, path, sheet):
    return tuple(winner(nodes, path, sheet, name) for _, name, _ in sheet[0])


def matching(nodes, path, sheet):
    return [at for at, rule in enumerate(sheet[1]) if any(fits(nodes, path, one) for one in rule[1])]


def style(nodes, path, sheet):
    """Return the dict of the values of the properties at a node."""
    above = style(nodes, path[:-1], sheet) if path else {name: default for _, name, default in sheet[0]}
    found = {}
    for form, name, default in sheet[0]:
        alone = default if form == 'own' else above[name]
        piece = winner(nodes, path, sheet, name)
        value = None if piece is None else sheet[1][piece[0]][2][piece[1]][1]
        if value is None:
            found[name] = alone
        elif value == 'inherit':
            found[name] = above[name]
        elif value[0] == '$':
            words = value[1:].split(' or ')
            if found[words[0]] is not None:
                found[name] = found[words[0]]
            else:
                found[name] = words[1] if len(words) == 2 else alone
        else:
            found[name] = value
    return found


def styles(nodes, sheet):
    return [(path, tuple(style(nodes, path, sheet).values())) for path in nodes]

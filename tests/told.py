"""States, papers and conditions a second time, by the words of the document alone.

Documents and sheets have the form of oracle.py.
"""

import math

import oracle


def behind(nodes, path, join):
    """Return the paths of the nodes to which a join leads from a node."""
    return [one for one in nodes if path in oracle.before(nodes, one, join)]


def selectors(sheet):
    return [one for _, rows, _ in sheet[1] for one in rows]


def relatives(sheet):
    return [part[1] for row in selectors(sheet) for _, (_, parts) in row for part in parts if part[0] == 'has']


def turns(sheet):
    """Return the pairs of digits of all `:nth`."""
    rows = selectors(sheet) + relatives(sheet)
    parts = [part for row in rows for _, (_, parts) in row for part in parts]
    parts = [part[1] if part[0] == 'not' else part for part in parts]
    return [part[1:] for part in parts if part[0] == 'nth']


def span(sheet):
    """Return the tuple (B, M)."""
    pairs = turns(sheet)
    return max([1, *[least for _, least in pairs]]), math.lcm(1, *[step for step, _ in pairs if step])


def place(nodes, path, sheet):
    least, turn = span(sheet)
    number = oracle.number(nodes, path)
    if number <= least + turn:
        return number
    return next(one for one in range(least + 1, least + turn + 1) if (number - one) % turn == 0)


def relative_items(nodes, paths, sheet, join):
    """Return the row of the items of relatives behind a join that fit one of the nodes."""
    return tuple((number, index) for number, row in enumerate(relatives(sheet)) for index in range(len(row))
                 if row[index][0] == join and any(fits_relative(nodes, path, row, index) for path in paths))


def fits_relative(nodes, path, row, index):
    """Return whether an item of a relative fits a node: whether the rest of it, from this compound on, does."""
    if not oracle.fits_compound(nodes, path, row[index][1]):
        return False
    return index + 1 == len(row) or any(fits_relative(nodes, one, row, index + 1)
                                        for one in behind(nodes, path, row[index + 1][0]))


def selector_items(nodes, paths, sheet, join):
    """Return the row of the items of selectors before a join that fit one of the nodes."""
    return tuple((number, index) for number, row in enumerate(selectors(sheet)) for index in range(len(row) - 1)
                 if row[index + 1][0] == join and any(oracle.fits(nodes, path, row[:index + 1]) for path in paths))


def value(nodes, path, sheet):
    return (*nodes[path], relative_items(nodes, behind(nodes, path, '>'), sheet, '>'),
            relative_items(nodes, behind(nodes, path, ' '), sheet, ' '))


def handed(nodes, path, sheet):
    """Return the style of the parent, with None for what no child can take."""
    if path:
        style = oracle.style(nodes, path[:-1], sheet)
    else:
        style = {name: default for _, name, default in sheet[0]}
    inherited = [name for _, _, declarations in sheet[1] for name, word, _ in declarations if word == 'inherit']
    return tuple(style[name] if form != 'own' or name in inherited else None for form, name, _ in sheet[0])


def state(nodes, path, sheet):
    last = oracle.siblings(nodes, path)[-1] == path
    behinds = [relative_items(nodes, behind(nodes, path, join), sheet, join) for join in '+~']
    befores = [selector_items(nodes, oracle.before(nodes, path, join), sheet, join) for join in ' >+~']
    return (value(nodes, path, sheet), place(nodes, path, sheet), last, *behinds, *befores, handed(nodes, path, sheet))


def worth(one, piece, sheet, above, old):
    """Return the value of a property if a piece wins it, or None does; all other values are the old ones."""
    form, name, default = one
    alone = default if form == 'own' else above[name]
    if piece is None:
        return alone
    word = sheet[1][piece[0]][2][piece[1]][1]
    if word == 'inherit':
        return above[name]
    if word[0] != '$':
        return word
    words = word[1:].split(' or ')
    if old[words[0]] is not None:
        return old[words[0]]
    return words[1] if len(words) == 2 else alone


def conditions(nodes, path, sheet):
    """Return the list of the conditions of a node."""
    above = oracle.style(nodes, path[:-1], sheet) if path else {name: default for _, name, default in sheet[0]}
    old = oracle.style(nodes, path, sheet)
    found = []
    for one in sheet[0]:
        ranks = oracle.ranks(nodes, path, sheet, one[1])
        row = sorted(ranks, key=ranks.get, reverse=True)
        if row:
            good = [piece for piece in row if worth(one, piece, sheet, above, old) == old[one[1]]]
            found.append((tuple(row), tuple(good), worth(one, None, sheet, above, old) == old[one[1]]))
    return found


def holds(condition, kept):
    """Return whether a condition holds if just these pieces are kept."""
    row, good, free = condition
    left = [piece for piece in row if piece in kept]
    return left[0] in good if left else free


def only(sheet, kept):
    """Return the sheet with these pieces alone."""
    rules = [(layer, selectors, [one for index, one in enumerate(declarations) if (at, index) in kept])
             for at, (layer, selectors, declarations) in enumerate(sheet[1])]
    return (sheet[0], [rule for rule in rules if rule[2]])

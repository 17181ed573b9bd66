"""Whether papers hold, a second time: by going through all short rows of children, by the words of the document alone.

Sheets have the form of oracle.py. All values and states that are given must have the right form.
"""

import itertools

import oracle
import told


def fits_plain(kind, marks, place, last, part):
    """Return whether a node with a place fits a part; a place stands for itself, as the document wants it."""
    if part[0] == '.':
        return part[1] in marks
    if part[0] == 'kind':
        return part[1] == kind
    if part[0] == 'first':
        return place == 1
    if part[0] == 'last':
        return last
    if part[0] == 'nth':
        return place in [part[1] * at + part[2] for at in range(60)]
    return not fits_plain(kind, marks, place, last, part[1])


def relatives_fitting(sheet, value, place, last, behind, later):
    """Return the set of the items of relatives that fit a node."""
    kind, marks, inner, deep = value
    noted = {'>': inner, ' ': deep, '+': behind, '~': later}
    found = set()
    for number, row in enumerate(told.relatives(sheet)):
        for index, (_, (name, parts)) in enumerate(row):
            fits = name in (None, kind) and all(fits_plain(kind, marks, place, last, part) for part in parts)
            if fits and (index + 1 == len(row) or (number, index + 1) in noted[row[index + 1][0]]):
                found.add((number, index))
    return found


def selectors_fitting(sheet, state):
    """Return the set of the items of selectors that fit a node with a state."""
    (kind, marks, inner, deep), place, last, behind, later, above, parent, before, earlier, _ = state
    noted = {'>': inner, ' ': deep, '+': behind, '~': later}
    leading = {' ': above, '>': parent, '+': before, '~': earlier}
    found = set()
    many = 0
    for number, row in enumerate(told.selectors(sheet)):
        for index, (join, (name, parts)) in enumerate(row):
            fits = name in (None, kind)
            for part in parts:
                if part[0] == 'has':
                    fits = fits and (many, 0) in noted[part[1][0][0]]
                    many += 1
                else:
                    fits = fits and fits_plain(kind, marks, place, last, part)
            if fits and (index == 0 or (number, index - 1) in leading[join]):
                found.add((number, index))
    return found


def style(sheet, state, fits):
    """Return the values of a node with a state that fits these items."""
    ranks = {}
    number = 0
    for at, (layer, rows, declarations) in enumerate(sheet[1]):
        weights = []
        for row in rows:
            weights += [oracle.weight(row)] if (number, len(row) - 1) in fits else []
            number += 1
        for index, (name, _, strong) in enumerate(declarations if weights else []):
            ranks.setdefault(name, {})[at, index] = (strong, layer, max(weights), at, index)
    above = dict(zip([name for _, name, _ in sheet[0]], state[9]))
    found = {}
    for one in sheet[0]:
        row = ranks.get(one[1], {})
        found[one[1]] = told.worth(one, max(row, key=row.get, default=None), sheet, above, found)
    return list(found.values())


def noted_relatives(sheet, items, join):
    return tuple(sorted(item for item in items if told.relatives(sheet)[item[0]][item[1]][0] == join))


def noted_selectors(sheet, items, join):
    rows = told.selectors(sheet)
    return tuple(sorted(item for item in items
                        if item[1] + 1 < len(rows[item[0]]) and rows[item[0]][item[1] + 1][0] == join))


def place_of(sheet, number):
    least, turn = told.span(sheet)
    return number if number <= least + turn else least + 1 + (number - least - 1) % turn


def read_row(sheet, row):
    """Return what follows from the right: tuples (place, last, behind, later), and the items for the parent."""
    found = []
    behind, later, inner, deep = (), set(), set(), set()
    for at in range(len(row) - 1, -1, -1):
        place, last = place_of(sheet, at + 1), at + 1 == len(row)
        found.insert(0, (place, last, behind, tuple(sorted(later))))
        fits = relatives_fitting(sheet, row[at], place, last, behind, later)
        inner |= set(noted_relatives(sheet, fits, '>'))
        deep |= set(noted_relatives(sheet, fits, ' ')) | set(row[at][3])
        behind = noted_relatives(sheet, fits, '+')
        later |= set(noted_relatives(sheet, fits, '~'))
    return found, tuple(sorted(inner)), tuple(sorted(deep))


class Closed:
    """Checks papers of a grammar in which no node has more than so many children."""

    def __init__(self, grammar, marks, sheet, widest):
        # The marks are a dict from the kinds to the lists of the rows of marks that they can have.
        self.grammar = grammar
        self.marks = marks
        self.sheet = sheet
        self.widest = widest
        inherited = [name for _, _, declarations in sheet[1] for name, word, _ in declarations if word == 'inherit']
        self.kept = [form != 'own' or name in inherited for form, name, _ in sheet[0]]

    def holds(self, values, states):
        values, states = dict(values), dict(states)
        rows = {kind: self.rows(kind, values) for kind in self.grammar.kinds}
        for kind in rows:
            for row, (_, inner, deep) in rows[kind]:
                for marks in self.marks[kind]:
                    if values.get((kind, marks, inner, deep), 10 ** 9) > 1 + sum(values[one] for one in row):
                        return False
        top = self.handed([default for _, _, default in self.sheet[0]])
        for value in values:
            if value[0] == self.grammar.root and states.get((value, 1, True, (), (), (), (), (), (), top)) != 0:
                return False
        return all(self.children_hold(state, rows, values, states) for state in states)

    def rows(self, kind, values):
        """Return the list of all rows of children of a kind, with what they tell."""
        found = []
        for many in range(self.widest + 1):
            for kinds in itertools.product(self.grammar.kinds, repeat=many):
                if self.grammar.fits(kind, kinds):
                    found += itertools.product(*[[value for value in values if value[0] == one] for one in kinds])
        return [(row, read_row(self.sheet, row)) for row in found]

    def handed(self, values):
        return tuple(value if kept else None for value, kept in zip(values, self.kept))

    def children_hold(self, state, rows, values, states):
        """Return whether all children that a node with a state can have are told."""
        fits = selectors_fitting(self.sheet, state)
        given = self.handed(style(self.sheet, state, fits))
        above = tuple(sorted({*state[5], *noted_selectors(self.sheet, fits, ' ')}))
        parent = noted_selectors(self.sheet, fits, '>')
        for row, (told_of, inner, deep) in rows[state[0][0]]:
            if (inner, deep) != state[0][2:]:
                continue
            before, earlier = (), set()
            for value, one in zip(row, told_of):
                child = (value, *one, above, parent, before, tuple(sorted(earlier)), given)
                outside = states[state] + 1 + sum(values[other] for other in row) - values[value]
                if states.get(child, 10 ** 9) > outside:
                    return False
                fits_child = selectors_fitting(self.sheet, child)
                before = noted_selectors(self.sheet, fits_child, '+')
                earlier |= set(noted_selectors(self.sheet, fits_child, '~'))
        return True

"""Shorter selectors and fewer rules that leave all styles as they are [10]."""

from deadrules.comparing import are_alike
from deadrules.compounds import Compound, Row
from deadrules.rules import Rule
from deadrules.sheets import Sheet
from deadrules.tables import Table


def moves(sheet):
    """Return the list of the sheets behind all moves, in their order."""
    rules = sheet.blocks()
    found = []
    for at, rule in enumerate(rules):
        for place, row in enumerate(rule.rows):
            for shorter_row in shorter_rows(row):
                rows = [*rule.rows[:place], shorter_row, *rule.rows[place + 1:]]
                found.append([*rules[:at], Rule(rule.layer, rows, rule.declarations), *rules[at + 1:]])
    for at, first in enumerate(rules):
        for place in range(at + 1, len(rules)):
            joined = joined_rule(first, rules[place])
            if joined is not None:
                found.append([*rules[:at], *rules[at + 1:place], joined, *rules[place + 1:]])
    return [Sheet(sheet.lines(), row) for row in found]


def shorter(grammar, sheet):
    """Return the sheet behind all moves that leave all styles, always the first one of them."""
    # The paper of the sheet itself is within the limit, or this raises LimitExceeded.
    Table(grammar, [sheet])
    found = sheet
    moved = first_alike(grammar, found)
    while moved is not None:
        found = moved
        moved = first_alike(grammar, found)
    return found


def first_alike(grammar, sheet):
    """Return the sheet behind the first move that leaves all styles, or None."""
    for moved in moves(sheet):
        if are_alike(grammar, sheet, moved):
            return moved
    return None


def shorter_rows(row):
    """Return the list of the rows that can stand in the place of the row of a selector."""
    found = []
    for at, compound in enumerate(row.compounds):
        for place in range(len(compound.parts)):
            one = Compound(compound.name, [*compound.parts[:place], *compound.parts[place + 1:]])
            found.append(Row(row.joins, [*row.compounds[:at], one, *row.compounds[at + 1:]]))
    if len(row.compounds) > 1:
        # The first join of a selector is empty.
        found.append(Row([row.joins[0], *row.joins[2:]], row.compounds[1:]))
    for at, join in enumerate(row.joins):
        if join == " ":
            found.append(Row([*row.joins[:at], ">", *row.joins[at + 1:]], row.compounds))
    return found


def joined_rule(first, second):
    """Return the rule that can stand in the place of two rules, or None."""
    if first.layer != second.layer:
        return None
    texts = [row.written for row in first.rows]
    if texts == [row.written for row in second.rows]:
        names = [declaration[0] for declaration in first.declarations]
        if not any([declaration[0] in names for declaration in second.declarations]):
            return Rule(second.layer, second.rows, first.declarations + second.declarations)
    if first.declarations == second.declarations:
        return Rule(second.layer, first.rows + second.rows, second.declarations)
    return None

"""What rules do in documents of a grammar, with smallest documents that show it [6]."""

from deadrules.checks import is_between
from deadrules.errors import InvalidName, InvalidNumber, InvalidPart
from deadrules.tables import Table, answer


def can_match(grammar, sheet, rule):
    """Return an answer for the nodes that a rule matches."""
    check_rule(sheet, rule)
    table = Table(grammar, [sheet])
    return answer(nodes_matched(table, [rule]))


def can_meet(grammar, sheet, rule, other):
    """Return an answer for the nodes that two rules match."""
    check_rule(sheet, rule)
    check_rule(sheet, other)
    table = Table(grammar, [sheet])
    return answer(nodes_matched(table, [rule, other]))


def can_win(grammar, sheet, rule, name):
    """Return an answer for the nodes at which a declaration of a rule wins a property."""
    check_rule(sheet, rule)
    at = index_of(sheet, name)
    table = Table(grammar, [sheet])
    found = []
    for node in table.nodes:
        piece = table.notes.manners[0].winning(node.fitted)[at]
        if piece is not None and piece[0] == rule:
            found.append(node)
    return answer(found)


def can_have(grammar, sheet, kind, name, value):
    """Return an answer for the nodes of a kind at which a property has a value."""
    check_kind(grammar, kind)
    at = index_of(sheet, name)
    table = Table(grammar, [sheet])
    return answer([node for node in nodes_of(table, kind) if node.looks[0][at] == value])


def all_values(grammar, sheet, kind, name):
    """Return the list of all values that a property can have at nodes of a kind, None first."""
    check_kind(grammar, kind)
    at = index_of(sheet, name)
    table = Table(grammar, [sheet])
    found = [node.looks[0][at] for node in nodes_of(table, kind)]
    words = sorted(set([value for value in found if value is not None]))
    return [None, *words] if None in found else words


def dead_rules(grammar, sheet):
    """Return the list of the rules that match no node of any document."""
    matched = matched_rules(grammar, sheet)
    return [rule for rule in range(len(sheet.rules)) if rule not in matched]


def idle_pieces(grammar, sheet):
    """Return the list of the pieces that win at no node of any document."""
    table = Table(grammar, [sheet])
    manner = table.notes.manners[0]
    won = {piece for node in table.nodes for piece in manner.winning(node.fitted)}
    return [piece for piece in sheet.pieces() if piece not in won]


def died(old, new, sheet):
    """Return the list of the rules that can match in documents of the first grammar, but not of the second one."""
    before = matched_rules(old, sheet)
    after = matched_rules(new, sheet)
    return [rule for rule in before if rule not in after]


def matched_rules(grammar, sheet):
    """Return the list of the rules that match a node of a document."""
    table = Table(grammar, [sheet])
    manner = table.notes.manners[0]
    return sorted({rule for node in table.nodes for rule in manner.matching(node.fitted)})


def nodes_matched(table, rules):
    """Return the list of the nodes that all of the rules match."""
    manner = table.notes.manners[0]
    return [node for node in table.nodes if manner.is_matched(node.fitted, rules)]


def nodes_of(table, kind):
    """Return the list of the nodes of a kind."""
    return [node for node in table.nodes if node.body.head[0] == kind]


def check_rule(sheet, rule):
    """Raise InvalidNumber for a value that is not the index of a rule."""
    if not is_between(rule, 0, len(sheet.rules) - 1):
        raise InvalidNumber(rule)


def check_kind(grammar, kind):
    """Raise InvalidPart for a value that is not a kind of the grammar."""
    if not isinstance(kind, str) or kind not in grammar.kinds:
        raise InvalidPart(kind)


def index_of(sheet, name):
    """Return the index of a property; raise InvalidName for a value that is none."""
    if not isinstance(name, str) or name not in sheet.names:
        raise InvalidName(name)
    return sheet.names.index(name)

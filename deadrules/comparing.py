"""Two sheets: the documents of a grammar that have other styles with the second one [9]."""

from deadrules.answers import index_of
from deadrules.errors import InvalidSheets
from deadrules.tables import Table, answer


def parting(grammar, one, two):
    """Return an answer for the nodes that have another style in the second sheet."""
    check_lines(one, two)
    table = Table(grammar, [one, two])
    return answer([node for node in table.nodes if node.looks[0] != node.looks[1]])


def parting_of(grammar, one, two, name):
    """Return an answer for the nodes at which a property has another value in the second sheet."""
    check_lines(one, two)
    at = index_of(one, name)
    table = Table(grammar, [one, two])
    return answer([node for node in table.nodes if node.looks[0][at] != node.looks[1][at]])


def check_lines(one, two):
    """Raise InvalidSheets if two sheets do not have the same lines of properties."""
    if not one.has_lines_of(two):
        raise InvalidSheets(two)


def are_alike(grammar, one, two):
    """Return whether two sheets with the same lines of properties give the same styles everywhere."""
    table = Table(grammar, [one, two])
    return all([node.looks[0] == node.looks[1] for node in table.nodes])

"""Papers: what can occur in documents of a grammar, as far as a sheet can tell [7]."""

from deadrules.checking import Checker
from deadrules.errors import InvalidPaper
from deadrules.notes import Notes
from deadrules.surveys import state_at
from deadrules.tables import Table
from deadrules.views import state_told, value_told


def state(sheet, document, path):
    """Return the state of a node of a document."""
    return state_at(sheet, document, document.number_of(path))


def paper(grammar, sheet):
    """Return the paper of a grammar and a sheet."""
    table = Table(grammar, [sheet])
    values = [(value_told(table.notes, part.head, part.low), part.total) for part in table.parts]
    states = [(state_told(table.notes, node.view()), node.total) for node in table.nodes]
    return sorted(values, key=row_order), sorted(states, key=row_order)


def row_order(row):
    """Return what the rows of a paper are sorted by."""
    return repr(row[0])


def check_paper(grammar, sheet, value):
    """Return whether a value is a paper that holds."""
    return Checker(grammar, Notes([sheet])).check(value) is not None


def denied(grammar, sheet, value):
    """Return the list of the rules that match none of the states of a paper."""
    notes = Notes([sheet])
    nodes = Checker(grammar, notes).check(value)
    if nodes is None:
        raise InvalidPaper(value)
    matched = {rule for node in nodes for rule in notes.manners[0].matching(node.fitted)}
    return [rule for rule in range(len(sheet.rules)) if rule not in matched]

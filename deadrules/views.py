"""Values and states as papers tell them [7].

The view of a node is a tuple (head, low, place, last, right, left, handed):
its kind and marks, what is noted for it as in notes.py, and what its parent
hands to it.
"""


def value_told(notes, head, low):
    """Return the value [7] of a node with this kind and marks, for which this is noted from below."""
    return (*head, notes.relatives.row_of(low, ">"), notes.relatives.row_of(low, " "))


def state_told(notes, view):
    """Return the state [7] of a node with this view for one sheet."""
    head, low, place, last, right, left, given = view
    behind = [notes.relatives.row_of(right, join) for join in ("+", "~")]
    before = [notes.selectors.row_of(left, join) for join in (" ", ">", "+", "~")]
    return (value_told(notes, head, low), place, last, *behind, *before, given[0])

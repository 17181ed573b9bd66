"""Models: which rows of kinds can be the children of a node [2].

A model is kept as the places of its names, counted from 1 in the order in which
they stand there, and place 0 before the row. Sets of places are integers: the
bit with the number of a place tells whether it is in the set. So a row is read
from left to right in one go, whatever stars stand inside of each other.
"""

from deadrules.checks import LETTERS, bits_of, cut, is_name

REPEATS = ("?", "*", "+")
SIGNS = ("(", ")", "|", "?", "*", "+")
MOST_NAMES = 12
MOST_BRACKETS = 12

# The set of places that holds only the one before the row.
START = 1

# Parts of a model are tuples: whether the empty row is one of theirs, the sets of
# the places with which rows of theirs begin and end, and what they need: a name,
# or a tuple of choices, one of which is needed. A choice is a tuple of the needs
# of its parts, without those that can be empty; rows of parts have one choice.
NOTHING = (True, 0, 0, ())


def read_model(text):
    """Return the model with this text, or None if it is not a text of a model."""
    pieces = cut(text, LETTERS, " ()|?*+")
    if pieces is None:
        return None
    pieces = [piece for piece in pieces if piece != " "]
    if not is_form(pieces):
        return None
    return Builder().built(pieces)


def is_form(pieces):
    """Return whether names, brackets and signs are a model within its limits."""
    depth = 0
    many = 0
    before = "|"
    for piece in pieces:
        if piece == "(":
            depth += 1
        elif piece == ")":
            depth -= 1
        elif piece in REPEATS:
            if before != ")" and before in SIGNS:
                return False
        elif piece != "|":
            many += 1
            if not is_name(piece):
                return False
        if depth < 0 or depth > MOST_BRACKETS:
            return False
        before = piece
    return depth == 0 and many <= MOST_NAMES


def least_cost(needed, costs):
    """Return the least sum of the costs of a name, or of all needs of a choice, or None."""
    if isinstance(needed, str):
        return costs.get(needed)
    sums = []
    for choice in needed:
        found = [least_cost(need, costs) for need in choice]
        if None not in found:
            sums.append(sum(found))
    return min(sums, default=None)


class Builder:
    """Makes a model out of its names, brackets and signs."""

    def __init__(self):
        self._names = [""]
        self._follows = [0]

    def built(self, pieces):
        """Return the model."""
        # Each open bracket has a list of choices, each one a list of the parts in it.
        frames = [[[]]]
        for piece in pieces:
            choices = frames[-1]
            if piece == "(":
                frames.append([[]])
            elif piece == ")":
                frames.pop()
                frames[-1][-1].append(self._chosen(choices))
            elif piece == "|":
                choices.append([])
            elif piece in REPEATS:
                choices[-1].append(self._repeated(choices[-1].pop(), piece))
            else:
                choices[-1].append(self._named(piece))
        empty, firsts, lasts, needed = self._chosen(frames[0])
        self._follows[0] = firsts
        if empty:
            lasts = lasts | START
        return Model(self._names, self._follows, lasts, needed)

    def _named(self, name):
        place = 1 << len(self._names)
        self._names.append(name)
        self._follows.append(0)
        return (False, place, place, name)

    def _chosen(self, choices):
        rows = [self._in_row(parts) for parts in choices]
        firsts = 0
        lasts = 0
        for row in rows:
            firsts = firsts | row[1]
            lasts = lasts | row[2]
        if True in [row[0] for row in rows]:
            return (True, firsts, lasts, ((),))
        return (False, firsts, lasts, tuple([row[3] for row in rows]))

    def _in_row(self, parts):
        row = NOTHING
        for part in parts:
            row = self._joined(row, part)
        return row

    def _joined(self, row, part):
        """Return the row with one more part."""
        self._link(row[2], part[1])
        firsts = row[1]
        lasts = part[2]
        needed = row[3]
        if row[0]:
            firsts = firsts | part[1]
        if part[0]:
            lasts = lasts | row[2]
        else:
            needed = (*needed, part[3])
        return (row[0] and part[0], firsts, lasts, needed)

    def _repeated(self, part, sign):
        empty, firsts, lasts, needed = part
        if sign != "?":
            self._link(lasts, firsts)
        return (empty or sign != "+", firsts, lasts, needed)

    def _link(self, lasts, firsts):
        for at in bits_of(lasts):
            self._follows[at] = self._follows[at] | firsts


class Model:
    """The rows of kinds that a model allows; it never changes."""

    def __init__(self, names, follows, lasts, needed):
        self._names = tuple(names)
        self._follows = tuple(follows)
        self._lasts = lasts
        self._needed = needed
        self._named = {}
        for at, name in enumerate(self._names):
            if at > 0:
                self._named[name] = self._named.get(name, 0) | 1 << at

    def distinct(self):
        """Return the list of the names, each once, in the order in which they first stand."""
        return list(self._named)

    def step(self, places, name):
        """Return the set of the places behind a name; it is 0 if no row goes on with it."""
        reached = 0
        for at in bits_of(places):
            reached = reached | self._follows[at]
        return reached & self._named.get(name, 0)

    def back(self, places, name):
        """Return the set of the places behind which a name can lead to one of the places."""
        reached = places & self._named.get(name, 0)
        found = 0
        for at, follows in enumerate(self._follows):
            if follows & reached > 0:
                found = found | 1 << at
        return found

    def last_places(self):
        """Return the set of the places at which a row can end."""
        return self._lasts

    def can_end(self, places):
        """Return whether a row can end at one of the places."""
        return places & self._lasts > 0

    def allows(self, names):
        """Return whether the row is one of the model."""
        places = START
        for name in names:
            if not isinstance(name, str):
                return False
            places = self.step(places, name)
        return self.can_end(places)

    def cost(self, costs):
        """Return the least sum of the costs of a row, or None.

        The costs are a dict; a row with a name that is not in it has none.
        """
        return least_cost(self._needed, costs)

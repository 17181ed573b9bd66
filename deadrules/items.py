"""The compounds of rows as items, and the places of children [7].

A set of items is an integer: the bit with the number of an item tells whether
it is in the set. The items of a row stand side by side, in their order.
"""

from math import lcm

from deadrules.checks import bits_of, is_integer
from deadrules.compounds import is_of_place, part_takes
from deadrules.reading import JOINS


class Items:
    """The compounds of rows; what they ask does not change.

    `noted` is a dict from each join to the items that are noted by it: by the
    join that many compounds behind that before the item. `firsts` is the set of
    the items that begin a row, `ends` the list of the bits of those that end one,
    and `everything` the set of all items.
    """

    def __init__(self, rows, behind):
        self.noted = {join: 0 for join in JOINS}
        self.firsts = 0
        self.ends = []
        self._spots = []
        self._numbers = {}
        self._asks_of_head = []
        self._asks_of_place = []
        for number, row in enumerate(rows):
            self.firsts = self.firsts | 1 << len(self._spots)
            for index, compound in enumerate(row.compounds):
                self._add(compound, (number, index), row.joins[index + behind:index + behind + 1])
            self.ends.append(len(self._spots) - 1)
        self.everything = (1 << len(self._spots)) - 1
        self._of_heads = {}
        self._of_places = {}

    def _add(self, compound, item, joins):
        bit = len(self._spots)
        self._spots.append(item)
        self._numbers[item] = bit
        for join in joins:
            self.noted[join] = self.noted[join] | 1 << bit
        of_place = [part for part in compound.plain if is_of_place(part)]
        of_head = [part for part in compound.plain if not is_of_place(part)]
        self._asks_of_head.append((compound.name, of_head))
        if of_place:
            self._asks_of_place.append((bit, of_place))

    def of_head(self, head):
        """Return the items that a node with this kind and these marks can fit."""
        found = self._of_heads.get(head)
        if found is None:
            found = 0
            node = (*head, 0, False)
            for bit, (name, parts) in enumerate(self._asks_of_head):
                if name in (None, head[0]) and all([part_takes(part, node) for part in parts]):
                    found = found | 1 << bit
            self._of_heads[head] = found
        return found

    def of_place(self, place, last):
        """Return the items that a node can fit which has this place, and is the last child or not."""
        key = (place, last)
        found = self._of_places.get(key)
        if found is None:
            found = self.everything
            node = ("", (), place, last)
            for bit, parts in self._asks_of_place:
                if not all([part_takes(part, node) for part in parts]):
                    found = found - (1 << bit)
            self._of_places[key] = found
        return found

    def row_of(self, items, join):
        """Return the row of those of the items that a join notes, as tuples of a number and an index."""
        left = items & self.noted[join]
        return tuple([self._spots[bit] for bit in reversed(bits_of(left))])

    def set_of(self, value, join):
        """Return the set of items of which a value is the row that a join notes, or None."""
        if not isinstance(value, tuple):
            return None
        found = 0
        for item in value:
            if not is_item(item) or item not in self._numbers:
                return None
            bit = self._numbers[item]
            # All items before this one are below its bit, so this also keeps them ascending.
            if found >> bit > 0 or self.noted[join] >> bit & 1 == 0:
                return None
            found = found | 1 << bit
        return found


def is_item(value):
    """Return whether a value has the form of an item."""
    return isinstance(value, tuple) and len(value) == 2 and is_integer(value[0]) and is_integer(value[1])


class Places:
    """The numbers of children, as far as parts `:nth` tell them apart; it never changes.

    `most` is the greatest place; 0 is the one before the first child.
    """

    def __init__(self, rows):
        start = 1
        turn = 1
        for row in rows:
            for step, least in turns_of(row):
                start = max(start, least)
                if step > 0:
                    turn = lcm(turn, step)
        self._start = start
        self._turn = turn
        self.most = start + turn

    def of(self, number):
        """Return the place of the child with this number, from 1."""
        if number <= self.most:
            return number
        return self._start + 1 + (number - self._start - 1) % self._turn

    def behind(self, place):
        """Return the place of the next child."""
        return self.of(place + 1)

    def before(self, place):
        """Return the list of the places that the child before can have, with 0 for none."""
        if place == self._start + 1:
            return [place - 1, self.most]
        return [place - 1]


def turns_of(row):
    """Return the list of the digits of all `:nth` in a row of compounds, without those in its relatives."""
    parts = [part for compound in row.compounds for part in compound.plain]
    inner = [part[1] if part[0] == "not" else part for part in parts]
    return [part[1] for part in inner if part[0] == "nth"]

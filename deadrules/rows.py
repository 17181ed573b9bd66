"""Rows of children, as far as relatives can tell them apart [7].

A row is read from its last child on, because each node is told what follows
it. The place of a child is told by those before it, so for the last child each
place is tried at which a row can end. Rests are told in the order of their
totals, so the first row with a value is a least one.
"""

from heapq import heappop, heappush

from deadrules.models import START


class Part:
    """All parts that have the same value: the kind and marks, and what is noted from below.

    `total` is the number of the value. `row` is the row of the children of a
    least one, or None if it is not known.
    """

    def __init__(self, head, low, total, row):
        self.head = head
        self.low = low
        self.total = total
        self.row = row


class Sort:
    """The parts that are alike as children: their kind, and what they can note; the least one comes first."""

    def __init__(self, possible, deep, part):
        self.possible = possible
        self.deep = deep
        self.total = part.total
        self.parts = [part]


class Rest:
    """The right ends of rows of children of a kind, the owner, that are alike for it and the siblings before.

    `ahead` is the set of the places of the model from which they can be read to
    the end, `place` that of their first child, or 0 if they are empty, `right`
    what they note for the sibling before it, `low` what they note for the
    parent. `total` is the least sum of the numbers of the children; `ways` are
    all tuples of the sort of the first child and the rest behind it, and `best`
    is one for the least sum. `number` is its index in the order of making.
    """

    def __init__(self, number, owner, ahead, place, right, low):
        self.number = number
        self.owner = owner
        self.ahead = ahead
        self.place = place
        self.right = right
        self.low = low
        self.total = None
        self.best = None
        self.ways = []
        self.done = False

    def is_whole(self):
        """Return whether nothing can be missing before it."""
        return self.place <= 1 and self.ahead & START > 0

    def children(self):
        """Return the list of the parts of a row with the least sum."""
        found = []
        rest = self
        while rest.best is not None:
            sort, rest = rest.best
            found.append(sort.parts[0])
        return found


class Rows:
    """All rows of children that can be made of the parts that were put in.

    Parts are put in in the order of their totals. No part has another kind than
    `kinds`; `lines` are those of the grammar.
    """

    def __init__(self, lines, kinds, notes):
        self._notes = notes
        self._models = {kind: lines[kind].model for kind in lines}
        self._reached = {kind: reached_by(lines[kind].model, kinds, notes.places) for kind in lines}
        self._steps = {}
        self._rests = {}
        self._made = []
        self._queue = []
        self._sorts = {}
        self._sorts_of = {kind: [] for kind in lines}
        self._open = {kind: [] for kind in lines}
        self._wholes = {}
        for kind in lines:
            self._reach((kind, self._models[kind].last_places(), 0, 0, 0), 0, None)

    def next_rest(self):
        """Return the next rest by its total, or None if there is none with the parts that were put in."""
        while self._queue:
            rest = self._made[heappop(self._queue)[1]]
            if not rest.done:
                rest.done = True
                self._spread(rest)
                return rest
        return None

    def put_part(self, part):
        """Put in a part that can be a child."""
        kind = part.head[0]
        possible = self._notes.fits_at_most(part.head, part.low)
        deep = self._notes.handed_up(part.low)
        key = (kind, possible, deep)
        if key in self._sorts:
            self._sorts[key].parts.append(part)
            return
        sort = Sort(possible, deep, part)
        self._sorts[key] = sort
        self._sorts_of[kind].append(sort)
        for rest, steps in list(self._open[kind]):
            self._join(sort, rest, steps)

    def wholes(self, kind, low):
        """Return the list of the whole rows below nodes of a kind that note this for them."""
        return list(self._wholes.get((kind, low), []))

    def _spread(self, rest):
        """Put all sorts before a rest."""
        if rest.is_whole():
            self._wholes.setdefault((rest.owner, rest.low), []).append(rest)
        for name in self._models[rest.owner].distinct():
            steps = self._steps_before(rest, name)
            if steps:
                self._open[name].append((rest, steps))
                for sort in list(self._sorts_of[name]):
                    self._join(sort, rest, steps)

    def _join(self, sort, rest, steps):
        notes = self._notes
        for ahead, place in steps:
            fits = notes.fitting(sort.possible, place, rest.place == 0, rest.right)
            low = rest.low | sort.deep | notes.upwards(fits)
            key = (rest.owner, ahead, place, notes.backwards(fits, rest.right), low)
            self._reach(key, rest.total + sort.total, (sort, rest))

    def _reach(self, key, total, way):
        rest = self._rests.get(key)
        if rest is None:
            rest = Rest(len(self._made), *key)
            self._rests[key] = rest
            self._made.append(rest)
        if way is not None:
            rest.ways.append(way)
        if rest.total is None or total < rest.total:
            rest.total = total
            rest.best = way
            heappush(self._queue, (total, rest.number))

    def _steps_before(self, rest, name):
        """Return the list of the tuples (ahead, place) of the rests with a child of a kind more."""
        key = (rest.owner, rest.ahead, rest.place, name)
        if key not in self._steps:
            self._steps[key] = self._steps_to(rest, name)
        return self._steps[key]

    def _steps_to(self, rest, name):
        places = self._notes.places
        reached = self._reached[rest.owner]
        ahead = self._models[rest.owner].back(rest.ahead, name)
        found = list(range(1, places.most + 1)) if rest.place == 0 else places.before(rest.place)
        return [(ahead, place) for place in found
                if place > 0 and any([ahead & reached[before] > 0 for before in places.before(place)])]


def reached_by(model, kinds, places):
    """Return the list of the sets of the places of a model, by the place of the child that was read last."""
    found = [0 for _ in range(places.most + 1)]
    found[0] = START
    names = [name for name in model.distinct() if name in kinds]
    changed = True
    while changed:
        changed = False
        for place in range(places.most + 1):
            reached = 0
            for name in names:
                reached = reached | model.step(found[place], name)
            behind = places.behind(place)
            if reached & found[behind] != reached:
                found[behind] = found[behind] | reached
                changed = True
    return found

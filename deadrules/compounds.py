"""Compounds and rows of them: what selectors are made of [3].

A part of a compound is a tuple of its word and of what stands behind it:
('.', mark), ('first', None), ('last', None), ('nth', (a, b)), ('not', part),
in which the part can be ('kind', kind), and ('has', row).
"""

SIGNS = (">", "+", "~")


class Compound:
    """A kind, or None for any kind, and parts; it never changes.

    `plain` are the parts that a node tells by itself, `relatives` the rows of the others.
    """

    def __init__(self, name, parts):
        self.name = name
        self.parts = tuple(parts)
        self.plain = tuple([part for part in parts if part[0] != "has"])
        self.relatives = tuple([part[1] for part in parts if part[0] == "has"])
        self.written = compound_text(name, parts)

    def takes(self, node):
        """Return whether a node (kind, marks, number, last) fits the kind and the plain parts."""
        if self.name is not None and self.name != node[0]:
            return False
        for part in self.plain:
            if not part_takes(part, node):
                return False
        return True


class Row:
    """Compounds, each with the join before it; it never changes.

    The first join of a selector is empty. `steps_back` are the tuples of a join and the compound behind
    it, the last ones first; `is_plain` tells whether a node tells by itself that it fits the row.
    """

    def __init__(self, joins, compounds):
        self.joins = tuple(joins)
        self.compounds = tuple(compounds)
        self.steps_back = tuple(zip(joins, compounds))[::-1]
        self.is_plain = len(compounds) == 1 and not compounds[0].relatives
        self.written = row_text(joins, compounds)

    def many(self):
        """Return the number of the compounds, with those of the relatives."""
        total = len(self.compounds)
        for compound in self.compounds:
            total += sum([row.many() for row in compound.relatives])
        return total


def part_takes(part, node):
    """Return whether a node (kind, marks, number, last) fits a plain part."""
    word, detail = part
    kind, marks, number, last = node
    if word == ".":
        return detail in marks
    if word == "first":
        return number == 1
    if word == "last":
        return last
    if word == "nth":
        return is_in_turn(number, detail[0], detail[1])
    if word == "kind":
        return kind == detail
    return not part_takes(detail, node)


def is_of_place(part):
    """Return whether a plain part asks for the place of a node, and not for its kind and marks."""
    word, detail = part
    return word in ("first", "last", "nth") or word == "not" and is_of_place(detail)


def is_in_turn(number, step, start):
    """Return whether a number is step * n + start for an integer n from 0 on."""
    if step == 0:
        return number == start
    return number >= start and (number - start) % step == 0


def part_text(part):
    """Return the text of a part."""
    word, detail = part
    if word == "kind":
        return detail
    if word == ".":
        return "." + detail
    if word == "nth":
        return f":nth({detail[0]},{detail[1]})"
    if word == "not":
        return f":not({part_text(detail)})"
    if word == "has":
        return f":has({detail.written})"
    return ":" + word


def compound_text(name, parts):
    """Return the text of a compound."""
    if name is None and not parts:
        return "*"
    return "".join([name or "", *[part_text(part) for part in parts]])


def row_text(joins, compounds):
    """Return the text of a row of compounds."""
    words = []
    for join, compound in zip(joins, compounds):
        if join in SIGNS:
            words.append(join)
        words.append(compound.written)
    return " ".join(words)


def weight_of(row):
    """Return the weight of a selector: the numbers of the parts and of the kinds."""
    kinds = [compound for compound in row.compounds if compound.name is not None]
    return (sum([len(compound.parts) for compound in row.compounds]), len(kinds))

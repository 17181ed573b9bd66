"""Least sheets: which declarations have to stay so that all styles stay [8]."""

from deadrules.covers import least_cover
from deadrules.errors import InvalidPiece
from deadrules.tables import Table, answer


def conditions(grammar, sheet):
    """Return the sorted list of all conditions of all nodes of all documents."""
    table = Table(grammar, [sheet])
    manner = table.notes.manners[0]
    found = {}
    seen = {}
    for node in table.nodes:
        key = (manner.whole(node.fitted), node.given)
        if key not in seen:
            seen[key] = True
            for condition in manner.conditions(node.fitted, node.given[0]):
                found[condition] = True
    return sorted(list(found))


def least_pieces(grammar, sheet):
    """Return the list of the pieces to keep: the first one of the shortest lists that leave all styles."""
    pieces = sheet.pieces()
    claims = {name: [] for name in sheet.names}
    for condition in conditions(grammar, sheet):
        name = name_of(sheet, condition[0][0])
        claims[name].extend(claims_of(condition, pieces))
    # No condition speaks of the pieces of several properties, so each property is looked at by itself.
    found = [number for name in claims for number in least_cover(claims[name])]
    return [pieces[number] for number in sorted(found)]


def name_of(sheet, piece):
    """Return the property of a piece."""
    return sheet.rules[piece[0]][2][piece[1]][0]


def claims_of(condition, pieces):
    """Return the list of the claims, by the numbers of the pieces, that tell what a condition does."""
    row, good, free = condition
    found = []
    better = 0
    for piece in row:
        bit = 1 << pieces.index(piece)
        if piece in good:
            better = better | bit
        else:
            found.append((bit, better))
    if not free:
        found.append((0, better))
    return found


def least_sheet(grammar, sheet):
    """Return the sheet with the pieces to keep alone."""
    return sheet.only(least_pieces(grammar, sheet))


def needed(grammar, sheet, piece):
    """Return an answer for the nodes that have another style in the sheet without a piece."""
    if not sheet.has_piece(piece):
        raise InvalidPiece(piece)
    table = Table(grammar, [sheet])
    manner = table.notes.manners[0]
    kept = [one for one in sheet.pieces() if one != piece]
    found = []
    for node in table.nodes:
        # Above a highest node with another style all styles are the same, so the same is handed down to it.
        if piece in manner.winning(node.fitted):
            rows = manner.conditions(node.fitted, node.given[0])
            if not all([holds(condition, kept) for condition in rows]):
                found.append(node)
    return answer(found)


def check_kept(grammar, sheet, pieces):
    """Return whether the sheet with these pieces alone gives the same styles everywhere."""
    sheet.only(pieces)
    return all([holds(condition, pieces) for condition in conditions(grammar, sheet)])


def holds(condition, kept):
    """Return whether a condition holds if just these pieces are kept."""
    row, good, free = condition
    for piece in row:
        if piece in kept:
            return piece in good
    return free

"""The least sets of numbers with which all claims hold.

A claim is a tuple (one, others) of sets of numbers, kept as the bits of
integers: if all numbers of the first set are taken, one of the others has to be
taken, too. So with an empty first set, one of the others is taken in any case.
"""

from deadrules.checks import bits_of


def least_cover(claims):
    """Return the first of the least lists of ascending numbers, in the order of lists, with which all claims hold.

    All claims hold if all numbers are taken.
    """
    claims = shortened(claims)
    most = 0
    while not can_be_covered(claims, 0, 0, most):
        most += 1
    numbers = 0
    for one, others in claims:
        numbers = numbers | one | others
    found = []
    taken = 0
    barred = 0
    for number in reversed(bits_of(numbers)):
        bit = 1 << number
        if len(found) < most and can_be_covered(claims, taken | bit, barred, most - len(found) - 1):
            taken = taken | bit
            found.append(number)
        else:
            barred = barred | bit
    return found


def shortened(claims):
    """Return the list of the claims without those that hold if another one does."""
    found = []
    # A claim with fewer numbers cannot follow from one with more.
    for one, others in sorted(claims, key=claim_size):
        if not any([first & one == first and behind & others == behind for first, behind in found]):
            found.append((one, others))
    return found


def claim_size(claim):
    """Return what claims are sorted by: how many numbers they have, and which."""
    return (len(bits_of(claim[0])) + len(bits_of(claim[1])), claim)


def can_be_covered(claims, taken, barred, most):
    """Return whether all claims hold with the numbers taken and up to so many more, none of them barred."""
    choices = [others - (others & barred) for one, others in claims if one & taken == one and others & taken == 0]
    if not choices:
        return True
    choices = sorted(choices, key=choice_size)
    if choices[0] == 0 or least_apart(choices) > most:
        return False
    for number in bits_of(choices[0]):
        bit = 1 << number
        if can_be_covered(claims, taken | bit, barred, most - 1):
            return True
        # Nothing with this number is left, so the next ones are tried without it.
        barred = barred | bit
    return False


def choice_size(choice):
    """Return how many numbers a set has."""
    return len(bits_of(choice))


def least_apart(choices):
    """Return how many of the sets, picked one after the other, have no number in common."""
    seen = 0
    many = 0
    for choice in choices:
        if choice & seen == 0:
            seen = seen | choice
            many += 1
    return many

"""What arguments and texts are made of: integers, names, words and signs."""

LETTERS = "abcdefghijklmnopqrstuvwxyz"
LONGEST_NAME = 8


def is_integer(value):
    """Return whether a value is an integer; True and False are none."""
    return isinstance(value, int) and not isinstance(value, bool)


def is_between(value, least, most):
    """Return whether a value is an integer from the least to the most."""
    return is_integer(value) and least <= value <= most


def is_name(value):
    """Return whether a value is a name: one to eight lowercase letters."""
    if not isinstance(value, str) or not 1 <= len(value) <= LONGEST_NAME:
        return False
    return all([sign in LETTERS for sign in value])


def are_names(values):
    """Return whether a value is a list or tuple of different names."""
    if not isinstance(values, (list, tuple)):
        return False
    return all([is_name(value) for value in values]) and len(set(values)) == len(values)


def words_of(text):
    """Return the list of what stands between blanks."""
    return [word for word in text.split(" ") if word]


def bits_of(numbers):
    """Return the falling list of the numbers in a set of them that is kept as the bits of an integer."""
    found = []
    left = numbers
    while left > 0:
        at = left.bit_length() - 1
        found.append(at)
        left = left - (1 << at)
    return found


def cut(text, letters, signs):
    """Cut a text into signs and the longest words of the letters.

    Returns None if the text has a character that is neither.
    """
    pieces = []
    word = ""
    for sign in text:
        if sign in letters:
            word += sign
            continue
        if sign not in signs:
            return None
        if word:
            pieces.append(word)
            word = ""
        pieces.append(sign)
    if word:
        pieces.append(word)
    return pieces

"""The lines of sheets: properties and rules [4]."""

from deadrules.checks import LETTERS, LONGEST_NAME, is_name, words_of
from deadrules.compounds import weight_of
from deadrules.errors import InvalidText, LimitExceeded
from deadrules.reading import read_row

DIGITS = "0123456789"
INHERIT = "inherit"


class Property:
    """The form of a property, `var`, `hand` or `own`, its name, and its default or None; it never changes."""

    def __init__(self, form, name, default):
        self.form = form
        self.name = name
        self.default = default
        self.written = f"{form} {name}"
        if default is not None:
            self.written = f"{form} {name} {default}"


class Rule:
    """A layer, the rows of compounds of the selectors, and declarations; it never changes.

    A declaration is a tuple (name, value, strong).
    """

    def __init__(self, layer, rows, declarations):
        self.layer = layer
        self.rows = tuple(rows)
        self.weights = tuple([weight_of(row) for row in rows])
        self.declarations = tuple(declarations)
        texts = [row.written for row in rows]
        self.told = (layer, tuple(texts), self.declarations)
        self.written = rule_text(layer, texts, declarations)


def rule_text(layer, selectors, declarations):
    """Return the line of a rule."""
    before = f"layer {layer} " if layer > 0 else ""
    given = "; ".join([declaration_text(one) for one in declarations])
    return before + ", ".join(selectors) + " { " + given + " }"


def declaration_text(declaration):
    """Return the text of a declaration."""
    name, value, strong = declaration
    sign = "!" if strong else ""
    return f"{name}{sign}: {value}"


def is_word(text):
    """Return whether a text is a word: one to eight lowercase letters and digits, but not `inherit`."""
    if text == INHERIT or not 1 <= len(text) <= LONGEST_NAME:
        return False
    return all([sign in LETTERS or sign in DIGITS for sign in text])


def read_property(text):
    """Return the property of a line, or None."""
    words = words_of(text)
    form = words[0]
    if len(words) == 2 and form == "var" and is_name(words[1]):
        return Property(form, words[1], None)
    if len(words) == 3 and form in ("hand", "own") and is_name(words[1]) and is_word(words[2]):
        return Property(form, words[1], words[2])
    return None


def read_rule(text, properties):
    """Return the rule of a line, or None; the properties are a list in their order."""
    head, _, behind = text.partition("{")
    body, closing, rest = behind.partition("}")
    layer, selectors = read_layer(head)
    rows = [row_or_none(selector) for selector in split_outside(selectors)]
    declarations = [read_declaration(part, properties) for part in body.split(";")]
    if not closing or rest.strip(" ") or None in rows or None in declarations:
        return None
    names = [declaration[0] for declaration in declarations]
    if len(set(names)) < len(names):
        return None
    return Rule(layer, rows, declarations)


def read_layer(text):
    """Return the tuple of the layer and of the text of the selectors."""
    words = text.lstrip(" ")
    behind = words[len("layer"):].lstrip(" ")
    if words.startswith("layer ") and behind[:1].isdigit() and behind[1:2] == " ":
        return int(behind[0]), behind[2:]
    return 0, text


def split_outside(text):
    """Return the list of what stands between the commas outside of brackets."""
    texts = []
    depth = 0
    start = 0
    for at, sign in enumerate(text):
        if sign == "(":
            depth += 1
        elif sign == ")":
            depth -= 1
        elif sign == "," and depth == 0:
            texts.append(text[start:at])
            start = at + 1
    return [*texts, text[start:]]


def row_or_none(text):
    """Return the row of compounds of a selector, or None if the text is none."""
    try:
        return read_row(text)
    except (InvalidText, LimitExceeded):
        return None


def read_declaration(text, properties):
    """Return the tuple (name, value, strong) of a declaration, or None."""
    left, _, right = text.partition(":")
    name = left.strip(" ")
    strong = name.endswith("!")
    if strong:
        name = name[:-1].strip(" ")
    names = [one.name for one in properties]
    if name not in names:
        return None
    before = [one.name for one in properties[:names.index(name)] if one.form == "var"]
    value = read_value(right, before)
    if value is None:
        return None
    return (name, value, strong)


def read_value(text, variables):
    """Return the text of a value with one blank between words, or None."""
    words = words_of(text)
    if len(words) == 1 and (words[0] == INHERIT or is_word(words[0])):
        return words[0]
    if not words or not words[0].startswith("$") or words[0][1:] not in variables:
        return None
    if len(words) == 1 or len(words) == 3 and words[1] == "or" and is_word(words[2]):
        return " ".join(words)
    return None

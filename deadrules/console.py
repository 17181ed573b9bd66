"""The console: commands on a sitting, as texts [12]."""

from deadrules.answers import all_values, can_match, dead_rules, idle_pieces
from deadrules.documents import parse_document
from deadrules.errors import InvalidCommand, InvalidPath
from deadrules.least import least_pieces, needed
from deadrules.sittings import apply_edits
from deadrules.styles import winners

DIGITS = "0123456789"
LONGEST_NUMBER = 4


def read_number(word):
    """Return the number of a word, or None if the word is no number."""
    if not 1 <= len(word) <= LONGEST_NUMBER or not all([sign in DIGITS for sign in word]):
        return None
    if word.startswith("0") and len(word) > 1:
        return None
    return int(word)


def read_path(word):
    """Return the path of a word, or None."""
    if word == "-":
        return ()
    indexes = [read_number(part) for part in word.split("/")]
    return None if None in indexes else tuple(indexes)


def read_piece(word):
    """Return the tuple of the indexes of a word, or None."""
    indexes = [read_number(part) for part in word.split(".")]
    return None if None in indexes or len(indexes) != 2 else tuple(indexes)


def read_word(word):
    """Return the word, or None if there is none."""
    return word if word else None


def read_text(word):
    """Return the text."""
    return word


def path_text(path):
    """Return the word of a path."""
    return "/".join([str(index) for index in path]) if path else "-"


def piece_text(piece):
    """Return the word of a piece."""
    return f"{piece[0]}.{piece[1]}"


def row_text(words):
    """Return the text of a row that can be empty."""
    return " ".join(words) if words else "none"


def answer_text(found):
    """Return the text of an answer."""
    return "none" if found is None else f"{found[0].text} {path_text(found[1])}"


def run_edit(sitting, arguments):
    """Replace the document."""
    sitting.edit(parse_document(arguments[0]))
    return "ok"


def run_put(sitting, arguments):
    """Put in a part."""
    return apply_edits(sitting, [("put", *arguments)])


def run_drop(sitting, arguments):
    """Take out a part."""
    return apply_edits(sitting, [("drop", *arguments)])


def run_rename(sitting, arguments):
    """Give another kind to a node."""
    return apply_edits(sitting, [("rename", *arguments)])


def run_style(sitting, arguments):
    """Tell the values of a node."""
    path = arguments[0]
    if path not in sitting.document:
        raise InvalidPath(path)
    style = sitting.styles()[list(sitting.document).index(path)][1]
    return " ".join([value or "-" for value in style])


def run_won(sitting, arguments):
    """Tell the winners of a node."""
    won = winners(sitting.document, sitting.sheet, arguments[0])
    return " ".join([piece_text(piece) if piece is not None else "-" for piece in won])


def run_changed(sitting, _):
    """Tell the changed nodes."""
    return row_text([path_text(path) for path in sitting.changed()])


def run_touched(sitting, _):
    """Tell the touched nodes."""
    return row_text([path_text(path) for path in sitting.touched()])


def run_dead(sitting, _):
    """Tell the dead rules."""
    return row_text([str(rule) for rule in dead_rules(sitting.grammar, sitting.sheet)])


def run_idle(sitting, _):
    """Tell the idle pieces."""
    return row_text([piece_text(piece) for piece in idle_pieces(sitting.grammar, sitting.sheet)])


def run_least(sitting, _):
    """Tell the pieces to keep."""
    return row_text([piece_text(piece) for piece in least_pieces(sitting.grammar, sitting.sheet)])


def run_values(sitting, arguments):
    """Tell all values of a property at nodes of a kind."""
    found = all_values(sitting.grammar, sitting.sheet, arguments[0], arguments[1])
    return row_text([value or "-" for value in found])


def run_match(sitting, arguments):
    """Tell a document with a node that a rule matches."""
    return answer_text(can_match(sitting.grammar, sitting.sheet, arguments[0]))


def run_needs(sitting, arguments):
    """Tell a document with a node that has another style without a piece."""
    return answer_text(needed(sitting.grammar, sitting.sheet, arguments[0]))


def run_show(sitting, _):
    """Tell the document."""
    return sitting.document.text


def run_undo(sitting, arguments):
    """Take back changes."""
    sitting.undo(*arguments)
    return "ok"


def run_redo(sitting, arguments):
    """Do changes again."""
    sitting.redo(*arguments)
    return "ok"


# What stands behind the first word of a command, and what runs it.
FORMS = {
    "edit": (read_text,),
    "put": (read_path, read_number, read_text),
    "drop": (read_path,),
    "rename": (read_path, read_word),
    "style": (read_path,),
    "won": (read_path,),
    "values": (read_word, read_word),
    "match": (read_number,),
    "needs": (read_piece,),
    "undo": (read_number,),
    "redo": (read_number,),
}
ACTIONS = {
    "edit": run_edit,
    "put": run_put,
    "drop": run_drop,
    "rename": run_rename,
    "style": run_style,
    "won": run_won,
    "changed": run_changed,
    "touched": run_touched,
    "dead": run_dead,
    "idle": run_idle,
    "least": run_least,
    "values": run_values,
    "match": run_match,
    "needs": run_needs,
    "show": run_show,
    "undo": run_undo,
    "redo": run_redo,
}

# Commands that can also stand alone, and those that end with a text, in which blanks can stand.
ALSO_ALONE = ("undo", "redo")
WITH_TEXT = ("edit", "put")


def read_command(command):
    """Return the list of the first word of a command and its arguments, or None if it is no command."""
    if not isinstance(command, str):
        return None
    name = command.partition(" ")[0]
    if name not in ACTIONS:
        return None
    form = FORMS.get(name, ())
    words = command.split(" ", len(form)) if name in WITH_TEXT else command.split(" ")
    if len(words) == 1 and name in ALSO_ALONE:
        return words
    if len(words) != len(form) + 1:
        return None
    arguments = [read(word) for read, word in zip(form, words[1:])]
    return None if None in arguments else [name, *arguments]


class Console:
    """Runs commands on a sitting."""

    def __init__(self, sitting):
        self._sitting = sitting

    def __len__(self):
        return len(self._sitting)

    def execute(self, command):
        """Run a command, and return its result."""
        words = read_command(command)
        if words is None:
            raise InvalidCommand(command)
        action = ACTIONS[words[0]]
        return action(self._sitting, words[1:])

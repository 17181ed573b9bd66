"""Sittings: a grammar, a sheet and a document, and what edits change [11]."""

from deadrules.checks import is_between, is_integer
from deadrules.documents import Document, parse_document
from deadrules.errors import DraftClosed, InvalidDocument, InvalidNumber, InvalidPart, InvalidSheets, NothingToUndo
from deadrules.matching import same_nodes
from deadrules.sheets import Sheet
from deadrules.styles import matching_by_path, styles_by_path
from deadrules.surveys import all_states

# The calls of a draft that an edit can tell, and how many arguments they have.
CALLS = {"put": 3, "drop": 1, "rename": 2, "mark": 2}


def apply_edits(sitting, edits):
    """Apply edits to the document of a sitting, and return its text."""
    if not isinstance(edits, (list, tuple)):
        raise InvalidPart(edits)
    with sitting.draft() as draft:
        for edit in edits:
            apply_edit(draft, edit)
        draft.commit()
    return sitting.document.text


def apply_edit(draft, edit):
    """Call the method of a draft that an edit tells."""
    if not isinstance(edit, tuple) or not edit or not isinstance(edit[0], str):
        raise InvalidPart(edit)
    name = edit[0]
    if CALLS.get(name) != len(edit) - 1:
        raise InvalidPart(edit)
    if name == "put":
        draft.put(edit[1], edit[2], edit[3])
    elif name == "drop":
        draft.drop(edit[1])
    elif name == "rename":
        draft.rename(edit[1], edit[2])
    else:
        draft.mark(edit[1], edit[2])


def check_document(grammar, document):
    """Raise InvalidDocument if a document is not one of the grammar."""
    path = grammar.first_wrong(document)
    if path is not None:
        raise InvalidDocument(path)


class Sitting:
    """A grammar, a sheet, and a document of the grammar, with all that was done to them."""

    def __init__(self, grammar, sheet, document):
        check_document(grammar, document)
        self._grammar = grammar
        self._sheet = sheet
        self._document = document
        # The tuples (sheet, document) before each change in effect, and behind each one that was taken back.
        self._done = []
        self._undone = []
        self._before = None

    @property
    def grammar(self):
        """The grammar."""
        return self._grammar

    @property
    def sheet(self):
        """The current sheet."""
        return self._sheet

    @property
    def document(self):
        """The current document."""
        return self._document

    def __eq__(self, other):
        if not isinstance(other, Sitting) or self._grammar.text != other._grammar.text:
            return False
        if self._sheet.text != other._sheet.text or self._document.text != other._document.text:
            return False
        return len(self._done) == len(other._done)

    def __len__(self):
        return len(self._done)

    def edit(self, document):
        """Replace the document."""
        if not isinstance(document, Document):
            raise InvalidPart(document)
        check_document(self._grammar, document)
        self._change(self._sheet, document)

    def restyle(self, sheet):
        """Replace the sheet."""
        if not isinstance(sheet, Sheet) or not self._sheet.has_lines_of(sheet):
            raise InvalidSheets(sheet)
        self._change(sheet, self._document)

    def undo(self, amount=1):
        """Take back the last changes."""
        check_amount(amount, self._done)
        self._move(amount, self._done, self._undone)

    def redo(self, amount=1):
        """Do again the changes that were taken back last."""
        check_amount(amount, self._undone)
        self._move(amount, self._undone, self._done)

    def styles(self):
        """Return the list of the tuples of the path and the style of all nodes."""
        return list(styles_by_path(self._document, self._sheet).items())

    def changed(self):
        """Return the list of the paths of the nodes that are new or have another style than before."""
        if self._before is None:
            return list(self._document)
        sheet, document = self._before
        return self._unlike(styles_by_path(document, sheet), styles_by_path(self._document, self._sheet))

    def touched(self):
        """Return the list of the paths of the nodes that are new, or of which the sheets tell something else."""
        if self._before is None:
            return list(self._document)
        sheet, document = self._before
        if sheet == self._sheet:
            return self._unlike(states_by_path(sheet, document), states_by_path(sheet, self._document))
        return self._unlike(rules_by_path(sheet, document), rules_by_path(self._sheet, self._document))

    def draft(self):
        """Return a draft that holds the current document."""
        return Draft(self)

    def clone(self):
        """Return a sitting with the same history that does not depend on this one."""
        other = Sitting(self._grammar, self._sheet, self._document)
        other._done = list(self._done)
        other._undone = list(self._undone)
        other._before = self._before
        return other

    def _change(self, sheet, document):
        self._before = (self._sheet, self._document)
        self._done.append(self._before)
        self._undone = []
        self._sheet = sheet
        self._document = document

    def _move(self, amount, source, target):
        """Go so many steps back or forth: to what was put last on the source."""
        self._before = (self._sheet, self._document)
        for _ in range(amount):
            target.append((self._sheet, self._document))
            self._sheet, self._document = source.pop()

    def _unlike(self, before, now):
        """Return the list of the paths of the nodes that are new, or of which something else is told than before."""
        same = same_nodes(self._before[1], self._document)
        return [path for path in self._document if path not in same or before[same[path]] != now[path]]


def check_amount(amount, steps):
    """Raise an error if there are not so many steps."""
    if not is_integer(amount) or amount < 1:
        raise InvalidNumber(amount)
    if amount > len(steps):
        raise NothingToUndo(amount)


def states_by_path(sheet, document):
    """Return a dict with the states of all nodes."""
    return dict(zip(document, all_states(sheet, document)))


def rules_by_path(sheet, document):
    """Return a dict with the lists of the rules that match the nodes."""
    rules = sheet.rules
    found = matching_by_path(document, sheet)
    return {path: [rules[rule] for rule in found[path]] for path in found}


class Draft:
    """A document of its own, which a sitting takes over when it is committed."""

    def __init__(self, sitting):
        self._sitting = sitting
        self._document = sitting.document
        self._closed = False

    def __enter__(self):
        return self

    def __exit__(self, kind, value, trace):
        self._closed = True

    def put(self, path, index, text):
        """Put in the part with a text as the child with this index of a node."""
        self._check_open("put")
        if not is_between(index, 0, self._document.width(path)):
            raise InvalidNumber(index)
        self._document = self._document.inserted(path, index, parse_document(text))

    def drop(self, path):
        """Take out a node and all below it."""
        self._check_open("drop")
        self._document = self._document.removed(path)

    def rename(self, path, kind):
        """Give another kind to a node."""
        self._check_open("rename")
        self._document = self._document.renamed(path, kind)

    def mark(self, path, marks):
        """Give other marks to a node."""
        self._check_open("mark")
        self._document = self._document.marked(path, marks)

    def commit(self):
        """Let the sitting take over the document."""
        self._check_open("commit")
        self._sitting.edit(self._document)
        self._closed = True

    def _check_open(self, name):
        if self._closed:
            raise DraftClosed(name)

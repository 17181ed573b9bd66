"""The errors of the package. Each one keeps the value that it was made with."""


class StyleError(ValueError):
    """The base of the errors about a wrong value or text."""


class ParseError(StyleError):
    """A line of a text cannot be read; None if the value is no text."""

    def __init__(self, line):
        self.line = line


class InvalidText(StyleError):
    """A value is not the text that it should be."""

    def __init__(self, value):
        self.value = value


class InvalidPath(StyleError):
    """A value is not the path of a node that can be used here."""

    def __init__(self, path):
        self.path = path


class InvalidNumber(StyleError):
    """A value is not an integer in the range that is asked for."""

    def __init__(self, value):
        self.value = value


class InvalidPart(StyleError):
    """A value is not the part, kind, marks or row that is asked for."""

    def __init__(self, value):
        self.value = value


class InvalidName(StyleError):
    """A value is not a property of the sheet."""

    def __init__(self, name):
        self.name = name


class InvalidPiece(StyleError):
    """A value is not a piece of the sheet, or no row of different ones."""

    def __init__(self, value):
        self.value = value


class InvalidPaper(StyleError):
    """A value is not a paper that holds."""

    def __init__(self, value):
        self.value = value


class InvalidSheets(StyleError):
    """A sheet does not have the lines of properties of the other one."""

    def __init__(self, value):
        self.value = value


class InvalidDocument(StyleError):
    """A document is not one of the grammar; the path is that of its first wrong node."""

    def __init__(self, path):
        self.path = path


class InvalidCommand(StyleError):
    """A value is not a command of the console."""

    def __init__(self, value):
        self.value = value


class LimitExceeded(OverflowError):
    """There is more than the limit allows."""

    def __init__(self, limit):
        self.limit = limit


class NothingToUndo(RuntimeError):
    """There are not so many changes to take back or to do again."""

    def __init__(self, amount):
        self.amount = amount


class DraftClosed(RuntimeError):
    """The method with this name was called on a closed draft."""

    def __init__(self, name):
        self.name = name

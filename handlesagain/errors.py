"""The errors of the package."""


class HandleError(ValueError):
    """The base of the errors that keep the argument that was rejected."""

    def __init__(self, value):
        self.value = value


class InvalidNumber(HandleError):
    """No integer in the range that is needed."""


class InvalidName(HandleError):
    """No name, no names, or a name that nothing has."""


class InvalidRow(HandleError):
    """No row, or no rows of a sort."""


class InvalidSort(HandleError):
    """No sorts of a program."""


class InvalidProgram(HandleError):
    """No program, or a sort that does not fit into one."""


class InvalidText(HandleError):
    """No text of a program."""


class InvalidBook(HandleError):
    """No book."""


class InvalidHands(HandleError):
    """No hands of a bench, or no bench."""


class InvalidStep(HandleError):
    """No step that can be made, or no run."""


class InvalidEdit(HandleError):
    """No edit that can be made, or no edits."""


class InvalidCommand(HandleError):
    """No command, or no deeds."""


class TooMany(OverflowError):
    """More was met than a limit allows."""

    def __init__(self, limit):
        self.limit = limit


class NothingToUndo(LookupError):
    """Nothing was done that is not undone."""

"""The errors that the package raises."""


class FrontBackError(ValueError):
    """The error from which all others derive."""


class InvalidRow(FrontBackError):
    """An argument is not a row."""


class InvalidRows(FrontBackError):
    """An argument is not a list of rows."""


class InvalidProgram(FrontBackError):
    """An argument is not a program."""


class InvalidOperation(FrontBackError):
    """An argument is not an operation."""


class InvalidWord(FrontBackError):
    """An argument is not a word."""


class InvalidNames(FrontBackError):
    """An argument is not a tuple of names."""


class InvalidMeaning(FrontBackError):
    """An argument is not a meaning."""


class InvalidNumber(FrontBackError):
    """An argument is not an integer within its bounds."""


class InvalidFences(FrontBackError):
    """An argument is not a pair of fences for the names."""


class InvalidResults(FrontBackError):
    """An argument is not a list of results for the names."""


class InvalidText(FrontBackError):
    """An argument is not the text of a program."""


class TooLarge(FrontBackError):
    """There would be too many operations or words."""


class NoProgram(FrontBackError):
    """No program has these results."""


class NoSource(FrontBackError):
    """The program makes the row of no row."""


class NothingToUndo(FrontBackError):
    """No operation is left that could be taken back."""


class Locked(FrontBackError):
    """The word of an operation is locked."""

    def __init__(self, word=None):
        self.word = word

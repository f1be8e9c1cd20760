"""Editors, which keep a row and what was done to it."""

from frontback.errors import Locked, NothingToUndo, TooLarge
from frontback.routes import route
from frontback.rows import check_operation, check_program, check_row, check_word, is_program, is_row, steps


class Editor:
    """A row that is edited step by step, and each step of which can be taken back."""

    def __init__(self, row):
        check_row(row)
        self._rows = [row]
        self._done = []

    def do(self, operation):
        """Execute an operation and return the row afterwards."""
        check_operation(operation)
        return self._execute([operation])

    def run(self, program):
        """Execute the operations of a program and return the row afterwards."""
        check_program(program)
        return self._execute(program)

    def undo(self):
        """Take back the last operation that is not taken back."""
        if not self._done:
            raise NothingToUndo("no operation is left that could be taken back")
        self._done = self._done[:-1]
        self._rows = self._rows[:-1]

    @property
    def row(self):
        """Return the present row."""
        return self._rows[-1]

    @property
    def done(self):
        """Return a new list of the operations that are done and not taken back."""
        return list(self._done)

    @property
    def start(self):
        """Return the row at first."""
        return self._rows[0]

    def short(self):
        """Return a list with the fewest operations that makes the present row of the row at first."""
        return route(self.start, self.row)

    def __len__(self):
        """Return the number of words of the row."""
        return len(self._rows[-1])

    def __contains__(self, x):
        """Return whether x is a word of the row."""
        return x in self._rows[-1]

    def __eq__(self, other):
        # What was done before counts as little as what is locked.
        return isinstance(other, Editor) and self._rows[-1] == other._rows[-1]

    def _execute(self, operations):
        """Execute a list of operations, or none of them if there is an error."""
        self._check_locks(operations)
        row = self._rows[-1]
        rows = list(steps(operations, row))
        done = self._done + operations
        # All operations are right and all words differ, so only the bounds can be broken.
        if not is_program(done) or not all([is_row(row) for row in rows]):
            raise TooLarge("there would be more than 60 operations, 12 words of these or 20 words of the row")
        self._done = done
        self._rows = self._rows + rows
        return self._rows[-1]

    def _check_locks(self, operations):
        """Raise nothing: here no word is locked."""


class LockedEditor(Editor):
    """An editor in which no operation on some words is executed."""

    def __init__(self, row, *locked):
        Editor.__init__(self, row)
        for word in locked:
            check_word(word)
        self._locked = tuple(sorted(set(locked)))

    @property
    def locked(self):
        """Return the ascending tuple of the locked words."""
        return self._locked

    def _check_locks(self, operations):
        """Raise Locked for the first operation whose word is locked."""
        for verb, word in operations:
            if word in self._locked:
                raise Locked(word)

"""Programs as objects, which are called, added, repeated and compared."""

from frontback.errors import InvalidProgram, TooLarge
from frontback.meanings import meaning_of
from frontback.rows import check_number, check_operation, is_program, run
from frontback.shortest import shortest, shortest_of

MOST_TIMES = 5


class Program:
    """An object that stands for a program."""

    WORDS = 12

    def __init__(self, *operations):
        for operation in operations:
            check_operation(operation)
        # Where every operation is right, only their number and that of their words can be wrong.
        if not is_program(list(operations)):
            raise TooLarge("a program has at most 60 operations with at most 12 words")
        self._operations = operations

    @classmethod
    def of(cls, meaning):
        """Return an object of this class with the operations of a shortest program of the meaning."""
        operations = shortest(meaning)
        return cls(*operations)

    def __call__(self, row):
        """Return the row that the program makes of the row."""
        return run(self.operations, row)

    @property
    def operations(self):
        """Return a new list of the operations in their order."""
        return list(self._operations)

    @property
    def meaning(self):
        """Return the meaning of the program."""
        return meaning_of(self._operations)

    def __add__(self, other):
        """Return the program that runs this one and then the other one."""
        if not isinstance(other, Program):
            raise InvalidProgram("only an object that stands for a program can be added")
        return self._made(self._operations + other._operations)

    def __mul__(self, other):
        """Return the program that runs this one so many times."""
        check_number(other, 0, MOST_TIMES)
        return self._made(self._operations * other)

    def __eq__(self, other):
        # What counts is what programs do, not how they are written.
        return isinstance(other, Program) and meaning_of(self._operations) == meaning_of(other._operations)

    def __len__(self):
        """Return the number of the operations."""
        return len(self._operations)

    def __contains__(self, x):
        """Return whether x is the word of an operation."""
        return x in [word for verb, word in self._operations]

    def _made(self, operations):
        """Return an object of the same class that is made of the operations."""
        return Program(*operations)


class ShortProgram(Program):
    """A program that keeps the operations of a shortest one that agrees with those that it is made of."""

    def __init__(self, *operations):
        Program.__init__(self, *operations)
        self._operations = tuple(shortest_of(meaning_of(operations)))

    def _made(self, operations):
        """Return an object of the same class that is made of the operations."""
        return ShortProgram(*operations)

"""Rows of words, programs, and what programs make of rows."""

from frontback.errors import InvalidNames, InvalidNumber, InvalidOperation, InvalidProgram, InvalidRow, InvalidWord

LETTERS = "abcdefghijklmnopqrstuvwxyz"
MOST_LETTERS = 8
MOST_ROW_WORDS = 20
MOST_OPERATIONS = 60
MOST_PROGRAM_WORDS = 12
MOST_NAMES = 8

# Each verb brings its word to one place, and only in one case. Running, fates and
# meanings all follow from this table, so that they cannot contradict each other.
MOVES = {
    "front": ("front", "always"),
    "back": ("back", "always"),
    "drop": ("out", "present"),
    "addfront": ("front", "absent"),
    "addback": ("back", "absent"),
    "lift": ("front", "present"),
    "sink": ("back", "present"),
}


def is_word(value):
    """Return whether value is a word: 1 to 8 small letters."""
    if not isinstance(value, str) or not 1 <= len(value) <= MOST_LETTERS:
        return False
    return all([sign in LETTERS for sign in value])


def is_row(value):
    """Return whether value is a row: a tuple of 0 to 20 different words."""
    if not isinstance(value, tuple) or len(value) > MOST_ROW_WORDS:
        return False
    return all([is_word(word) for word in value]) and len(set(value)) == len(value)


def is_operation(value):
    """Return whether value is an operation: a tuple of a verb and a word."""
    if not isinstance(value, tuple) or len(value) != 2:
        return False
    verb, word = value
    # A verb of another kind may be unfit as the key of a dict.
    return isinstance(verb, str) and verb in MOVES and is_word(word)


def is_program(value):
    """Return whether value is a program: a list of 0 to 60 operations with at most 12 words."""
    if not isinstance(value, list) or len(value) > MOST_OPERATIONS:
        return False
    if not all([is_operation(operation) for operation in value]):
        return False
    return len(set([word for verb, word in value])) <= MOST_PROGRAM_WORDS


def is_names(value):
    """Return whether value is a tuple of 1 to 8 different words."""
    return is_row(value) and 1 <= len(value) <= MOST_NAMES


def is_integer(value):
    """Return whether value is an integer; True and False are none."""
    return isinstance(value, int) and not isinstance(value, bool)


def check_word(word):
    """Raise InvalidWord unless word is a word."""
    if not is_word(word):
        raise InvalidWord("a word is a string of 1 to 8 small letters")


def check_row(row):
    """Raise InvalidRow unless row is a row."""
    if not is_row(row):
        raise InvalidRow("a row is a tuple of at most 20 different words")


def check_operation(operation):
    """Raise InvalidOperation unless operation is an operation."""
    if not is_operation(operation):
        raise InvalidOperation("an operation is a tuple of a verb and a word")


def check_program(program):
    """Raise InvalidProgram unless program is a program."""
    if not is_program(program):
        raise InvalidProgram("a program is a list of at most 60 operations with at most 12 words")


def check_names(names):
    """Raise InvalidNames unless names are names."""
    if not is_names(names):
        raise InvalidNames("names are a tuple of 1 to 8 different words")


def check_number(number, least, most):
    """Raise InvalidNumber unless number is an integer within these bounds."""
    if not is_integer(number) or not least <= number <= most:
        raise InvalidNumber("the number is no integer, or too small or too large")


def holds(case, present):
    """Return whether the case holds for a word that is present, or is not."""
    if case == "always":
        return True
    return present == (case == "present")


def after(row, operation):
    """Return the row that one operation makes of a row of any length."""
    verb, word = operation
    place, case = MOVES[verb]
    if not holds(case, word in row):
        return row
    others = tuple([other for other in row if other != word])
    if place == "front":
        return (word,) + others
    if place == "back":
        return others + (word,)
    return others


def run(program, row):
    """Return the row that the program makes of the row."""
    check_program(program)
    check_row(row)
    for operation in program:
        row = after(row, operation)
    return row


def steps(program, row):
    """Yield the rows after each operation of the program."""
    check_program(program)
    check_row(row)
    for operation in program:
        row = after(row, operation)
        yield row


def fate(program, word):
    """Return where the word ends if it is present, and where if it is absent."""
    check_program(program)
    check_word(word)
    return (last_place(program, word, "middle"), last_place(program, word, "out"))


def last_place(program, word, place):
    """Return where a word ends that is at this place at first."""
    for verb, moved in program:
        goal, case = MOVES[verb]
        if moved == word and holds(case, place != "out"):
            place = goal
    return place

"""What is known of a row before a program was run, and of all rows after it."""

from math import perm

from frontback.errors import InvalidWord, NoSource
from frontback.meanings import made_of, meaning_of, rows_up_to_two, stands_left
from frontback.rows import check_names, check_program, check_row, check_word, fate, last_place


def sources(program, row, names):
    """Return the number of rows with words among the names of which the program makes the row."""
    check_program(program)
    check_row(row)
    check_names(names)
    return sum([orders_of(program, found) for found in examples(program, row, names)])


def source(program, row, names):
    """Return such a row with as few words as possible."""
    check_program(program)
    check_row(row)
    check_names(names)
    found = examples(program, row, names)
    if not found:
        raise NoSource("the program makes the row of no row with these names")
    return found[0]


def sure(program):
    """Return the words that are in every row that the program makes, and those of the program that are in none."""
    check_program(program)
    words = sorted(set([word for verb, word in program]))
    always = [word for word in words if "out" not in fate(program, word)]
    never = [word for word in words if fate(program, word) == ("out", "out")]
    return (tuple(always), tuple(never))


def always_before(program, word, other):
    """Return whether word stands before other in every row that the program makes and that has both."""
    check_program(program)
    check_word(word)
    check_word(other)
    if word == other:
        raise InvalidWord("the two words must be different")
    triple = meaning_of(program)
    return not any([stands_left(made_of(triple, row), other, word) for row in rows_up_to_two([word, other])])


def examples(program, row, names):
    """Return one source for each choice of names that has sources, those with the fewest words first."""
    triple = meaning_of(program)
    found = [in_order_of(row, words) for words in choices(names)]
    return [words for words in found if made_of(triple, words) == row]


def choices(names):
    """Return the list of the tuples of none, some or all of the names, the shortest ones first."""
    chosen = [()]
    for name in names:
        chosen = chosen + [words + (name,) for words in chosen]
    return sorted(chosen, key=len)


def in_order_of(row, words):
    """Return the words as a row in which those that are in the row stand in its order."""
    # If the words are a source in any order, they are one in this order: words that
    # are not moved keep the order that they have in the row.
    return tuple([word for word in row if word in words] + [word for word in words if word not in row])


def orders_of(program, words):
    """Return in how many orders the words are a source if they are one in this order."""
    # A word that is moved or taken out may stand anywhere, the others keep their order.
    free = [word for word in words if last_place(program, word, "middle") != "middle"]
    return perm(len(words), len(free))

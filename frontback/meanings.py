"""The meanings of programs, and what follows from them."""

from frontback.errors import InvalidMeaning, TooLarge
from frontback.rows import LETTERS, MOST_PROGRAM_WORDS, MOVES, check_program, check_row, holds, is_word

CASES = ("always", "present", "absent")
NOTHING = ((), (), ())


def meaning(program):
    """Return the meaning of the program."""
    check_program(program)
    return meaning_of(program)


def is_meaning(value):
    """Return whether value is a meaning."""
    if not has_form(value):
        return False
    front, back, dropped = value
    if len(set(words_of(value))) > MOST_PROGRAM_WORDS or not are_single(front + back):
        return False
    if not all([word not in dropped for word, case in front + back]):
        return False
    return are_apart(front) and are_apart(back) and have_order(front, back)


def apply(meaning, row):
    """Return what the meaning makes of the row."""
    check_meaning(meaning)
    check_row(row)
    return made_of(meaning, row)


def agree(program, other):
    """Return whether the programs make the same of every row."""
    check_program(program)
    check_program(other)
    return meaning_of(program) == meaning_of(other)


def difference(program, other):
    """Return a shortest row of which the programs make different rows, None if they agree."""
    check_program(program)
    check_program(other)
    one, two = meaning_of(program), meaning_of(other)
    # Programs that do not agree are told apart by two words already, and of the
    # words that are in neither program one is as good as any.
    words = sorted(set(words_of(one) + words_of(two)))
    for row in rows_up_to_two(words + [stranger(words)]):
        if made_of(one, row) != made_of(two, row):
            return row
    return None


def joined(meaning, other):
    """Return the meaning of a program with the first meaning, followed by one with the other."""
    check_meaning(meaning)
    check_meaning(other)
    if len(set(words_of(meaning) + words_of(other))) > MOST_PROGRAM_WORDS:
        raise TooLarge("the meanings together have more than 12 words")
    return composed(meaning, other)


def settles(program):
    """Return how often the program is run before running it once more changes nothing."""
    check_program(program)
    once = meaning_of(program)
    repeated = NOTHING
    times = 0
    while composed(repeated, once) != repeated:
        repeated = composed(repeated, once)
        times = times + 1
    return times


def forgets(program, other):
    """Return whether running other before the program makes no difference."""
    check_program(program)
    check_program(other)
    alone = meaning_of(program)
    return composed(meaning_of(other), alone) == alone


def commute(program, other):
    """Return whether the programs do the same in both orders."""
    check_program(program)
    check_program(other)
    one, two = meaning_of(program), meaning_of(other)
    return composed(one, two) == composed(two, one)


def check_meaning(value):
    """Raise InvalidMeaning unless value is a meaning."""
    if not is_meaning(value):
        raise InvalidMeaning("a meaning is a tuple (front, back, dropped) that a program can have")


def has_form(value):
    """Return whether value is made as a meaning is, whatever its entries are together."""
    if not isinstance(value, tuple) or len(value) != 3:
        return False
    front, back, dropped = value
    return are_entries(front) and are_entries(back) and are_ascending(dropped)


def are_entries(value):
    """Return whether value is a tuple of entries."""
    return isinstance(value, tuple) and all([is_entry(entry) for entry in value])


def is_entry(value):
    """Return whether value is an entry: a tuple of a word and a case."""
    return isinstance(value, tuple) and len(value) == 2 and is_word(value[0]) and value[1] in CASES


def are_ascending(value):
    """Return whether value is a tuple of words in strictly ascending order."""
    if not isinstance(value, tuple) or not all([is_word(word) for word in value]):
        return False
    return list(value) == sorted(set(value))


def words_of(triple):
    """Return the list of the words of a meaning, some perhaps twice."""
    front, back, dropped = triple
    return [word for word, case in front + back] + list(dropped)


def split(entries):
    """Return the list of the entries, each with the case always as two: present and absent."""
    return [(word, half) for word, case in entries for half in ("present", "absent") if case in (half, "always")]


def merged(halves):
    """Return the tuple of the entries that split takes apart: neighbours of one word are one entry."""
    entries = []
    for word, half in halves:
        if entries and entries[-1][0] == word:
            entries[-1] = (word, "always")
        else:
            entries.append((word, half))
    return tuple(entries)


def are_single(entries):
    """Return whether each word has at most one entry if it is present, and one if it is absent."""
    halves = split(entries)
    return len(set(halves)) == len(halves)


def are_apart(entries):
    """Return whether no two entries of one word stand side by side."""
    # In one order they would be one entry, in the other one no program can make them.
    return all([left[0] != right[0] for left, right in zip(entries, entries[1:])])


def have_order(front, back):
    """Return whether there is an order in which a program can make the entries."""
    words = sorted(set([word for word, case in front + back]))
    return not any([are_blocked(front, back, word, other) for word in words for other in words])


def are_blocked(front, back, word, other):
    """Return whether entries of the words, perhaps of one word, would wait for each other."""
    in_front = stands_left(front, (word, "present"), (other, "absent"))
    in_back = stands_left(back, (word, "absent"), (other, "present"))
    if word == other:
        return in_front or in_back
    return in_front and in_back


def stands_left(entries, left, right):
    """Return whether both are among the entries, and the first to the left of the second."""
    return left in entries and right in entries and entries.index(left) < entries.index(right)


def meaning_of(program):
    """Return the meaning of a list of operations, however many words it has."""
    made = NOTHING
    for operation in program:
        made = composed(made, meaning_of_one(operation))
    return made


def meaning_of_one(operation):
    """Return the meaning of a program with this operation alone."""
    verb, word = operation
    place, case = MOVES[verb]
    if place == "front":
        return (((word, case),), (), ())
    if place == "back":
        return ((), ((word, case),), ())
    return ((), (), (word,))


def made_of(triple, row):
    """Return what a meaning makes of a row, however many words they have."""
    front, back, dropped = triple
    before = [word for word, case in front if holds(case, word in row)]
    behind = [word for word, case in back if holds(case, word in row)]
    gone = before + behind + list(dropped)
    return tuple(before + [word for word in row if word not in gone] + behind)


def composed(first, second):
    """Return the meaning of running first and then second, however many words they have."""
    front = brought(first, second[0]) + untouched(first[0], second)
    back = untouched(first[1], second) + brought(first, second[1])
    still_out = [word for word in first[2] if not has_entry(second, word, False)]
    return (merged(front), merged(back), tuple(sorted(set(still_out + list(second[2])))))


def brought(first, entries):
    """Return the halves, told from before first is run, that these entries bring when they follow it."""
    return [
        (word, half)
        for word, case in entries
        for half in ("present", "absent")
        if holds(case, is_in(first, word, half == "present"))
    ]


def untouched(entries, second):
    """Return the halves of these entries that second leaves where they are."""
    return [
        (word, half)
        for word, half in split(entries)
        if word not in second[2] and not has_entry(second, word, True)
    ]


def is_in(triple, word, present):
    """Return whether the word is in what a meaning makes of a row in which it is present, or is not."""
    return has_entry(triple, word, present) or (present and word not in triple[2])


def has_entry(triple, word, present):
    """Return whether an entry of the word has a case that holds if it is present, or is not."""
    return any([entry[0] == word and holds(entry[1], present) for entry in triple[0] + triple[1]])


def rows_up_to_two(words):
    """Return the list of the rows of at most two of the words, the shortest ones first."""
    pairs = [(left, right) for left in words for right in words if left != right]
    return [()] + [(word,) for word in words] + pairs


def stranger(words):
    """Return a word that is not among the words, of which there are at most 24."""
    return [letter for letter in LETTERS if letter not in words][0]

"""Rows that tell programs apart, and the programs that are read off what they make of them."""

from itertools import combinations
from math import comb

from frontback.errors import InvalidFences, InvalidResults, InvalidRows, NoProgram
from frontback.meanings import is_meaning, made_of, merged, stands_left
from frontback.rows import MOST_NAMES, check_names, check_number, is_row
from frontback.shortest import shortest_of

MOST_RESULT_WORDS = 10


def tells(names, rows):
    """Return whether the rows tell programs with these names apart."""
    check_names(names)
    check_rows(rows)
    if not all([are_independent(one, other, rows) for one in names for other in names if one != other]):
        return False
    return all([is_exposed(name, names, rows) for name in names])


def fewest(number):
    """Return the least number of rows that tell programs with so many names apart."""
    check_number(number, 1, MOST_NAMES)
    size = 2
    while comb(size - 1, size // 2 - 1) < number:
        size = size + 1
    return size


def probes(names, fences=("left", "right")):
    """Return a list of as few rows as possible that tell programs with these names apart."""
    check_names(names)
    check_fences(fences, names)
    first, last = fences
    size = fewest(len(names))
    places = meeting_sets(size, size // 2 - 1)
    return [
        (first,) + tuple([name for name, numbers in zip(names, places) if at in numbers]) + (last,)
        for at in range(size)
    ]


def learned(names, results, fences=("left", "right")):
    """Return a shortest program that makes these results of the probes."""
    check_names(names)
    check_results(results, fewest(len(names)))
    rows = probes(names, fences)
    triple = read_off(names, rows, results, fences)
    # What is read off results that no program makes is no meaning, or makes something else.
    if not is_meaning(triple) or [made_of(triple, row) for row in rows] != results:
        raise NoProgram("no program with these names makes the results")
    return shortest_of(triple)


def check_rows(rows):
    """Raise InvalidRows unless rows is a list of rows."""
    if not isinstance(rows, list) or not all([is_row(row) for row in rows]):
        raise InvalidRows("a list of rows is asked for")


def check_fences(fences, names):
    """Raise InvalidFences unless fences is a tuple of two different words that are not among the names."""
    if not is_row(fences) or len(fences) != 2 or fences[0] in names or fences[1] in names:
        raise InvalidFences("fences are two different words that are not among the names")


def check_results(results, size):
    """Raise InvalidResults unless results is a list of so many rows of at most 10 words."""
    if not isinstance(results, list) or len(results) != size:
        raise InvalidResults("there is one result for each of the probes")
    if not all([is_row(result) and len(result) <= MOST_RESULT_WORDS for result in results]):
        raise InvalidResults("a result is a row of at most 10 words")


def are_independent(one, other, rows):
    """Return whether there are rows with both names, with each one alone, and with neither."""
    return len(set([(one in row, other in row) for row in rows])) == 4


def is_exposed(name, names, rows):
    """Return whether a stranger stands before the name in a row, behind it in one, and in one without it."""
    having = [row for row in rows if name in row]
    before = any([has_stranger(row[:row.index(name)], names) for row in having])
    behind = any([has_stranger(row[row.index(name):], names) for row in having])
    return before and behind and any([has_stranger(row, names) for row in rows if name not in row])


def has_stranger(row, names):
    """Return whether a word of the row is not among the names."""
    return any([word not in names for word in row])


def meeting_sets(size, others):
    """Return the list of the tuples of 0 and so many others of the numbers below size."""
    # Any two of them have 0 in common, none contains another one, and with not more
    # than half of the numbers in each one they leave a number out: names at these
    # places are together, alone and absent. No more sets than these can be so.
    return [(0,) + chosen for chosen in combinations(range(1, size), others)]


def read_off(names, rows, results, fences):
    """Return the meaning of a program that makes the results of the rows, a wrong triple if there is none."""
    first, last = fences
    pairs = [(row, result) for row, result in zip(rows, results)]
    fronts = [halves_of(names, row, until(result, first)) for row, result in pairs]
    backs = [halves_of(names, row, until(result[::-1], last)) for row, result in pairs]
    dropped = [name for name in names if any([name in row and name not in result for row, result in pairs])]
    return (merged(in_order(fronts)), merged(in_order(backs)[::-1]), tuple(sorted(dropped)))


def until(words, fence):
    """Return the words that stand before the fence, all words if it is not there."""
    if fence not in words:
        return words
    return words[:words.index(fence)]


def halves_of(names, row, words):
    """Return the list of those words that are names, each with whether it was present in the row."""
    return [(word, "present" if word in row else "absent") for word in words if word in names]


def in_order(lines):
    """Return the list of the halves of all lines, in the one order that contains the order of each line."""
    halves = sorted(set([half for line in lines for half in line]))
    ranked = [(len([other for other in halves if is_left(other, half, lines)]), half) for half in halves]
    return [half for rank, half in sorted(ranked)]


def is_left(half, other, lines):
    """Return whether the half stands to the left of the other one, told from the outside inwards."""
    # No row has both halves of one word, but a program puts the absent one further out.
    if half[0] == other[0]:
        return half[1] == "absent" and other[1] == "present"
    return any([stands_left(line, half, other) for line in lines])

"""The fewest operations that lead from one row to another one."""

from math import factorial

from frontback.rows import check_row


def distance(row, other):
    """Return the least number of operations that make other of row."""
    check_row(row)
    check_row(other)
    before, behind = sides(row, other)[0]
    return len(before) + len(behind) + len(gone(row, other))


def route(row, other):
    """Return a list with the fewest operations that makes other of row."""
    check_row(row)
    check_row(other)
    before, behind = sides(row, other)[0]
    drops = [("drop", word) for word in gone(row, other)]
    fronts = [("front", word) for word in before[::-1]]
    return drops + fronts + [("back", word) for word in behind]


def routes(row, other):
    """Return the number of lists with the fewest operations that make other of row."""
    check_row(row)
    check_row(other)
    drops = len(gone(row, other))
    return sum([ways(len(before), len(behind), drops) for before, behind in sides(row, other)])


def gone(row, other):
    """Return the list of the words of row that are not in other."""
    return [word for word in row if word not in other]


def sides(row, other):
    """Return for each longest stretch the words of other that stand before it, and those behind it."""
    size = len(other)
    while not sides_of_size(row, other, size):
        size = size - 1
    return sides_of_size(row, other, size)


def sides_of_size(row, other, size):
    """Return the same for the stretches of this size, an empty list if there are none."""
    return [
        (other[:start], other[start + size:])
        for start in range(len(other) - size + 1)
        if is_stretch(row, other[start:start + size])
    ]


def is_stretch(row, words):
    """Return whether the words stand in row in the same order."""
    return tuple([word for word in row if word in words]) == words


def ways(before, behind, drops):
    """Return the number of lists that move so many words to each side of a stretch, and drop so many."""
    merges = factorial(before + behind + drops) // (factorial(before) * factorial(behind))
    # Each moved word is in row or is not, and has a verb for this case beside that for both.
    return merges * (1 << (before + behind))

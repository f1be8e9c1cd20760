"""The shortest programs of a meaning, and operations that a program does not need."""

from math import perm

from frontback.meanings import check_meaning, meaning_of
from frontback.rows import MOVES, check_program


def shortest(meaning):
    """Return a program with the fewest operations that has this meaning."""
    check_meaning(meaning)
    return shortest_of(meaning)


def orders(meaning):
    """Return the number of the shortest programs of the meaning."""
    check_meaning(meaning)
    front, back, drops = operations_of(meaning)
    # Nothing depends on where the words are dropped, so each drop may stand anywhere.
    return merges(front, back) * perm(len(front + back + drops), len(drops))


def all_shortest(meaning):
    """Yield the shortest programs of the meaning in ascending order."""
    check_meaning(meaning)
    waiting = [([], operations_of(meaning))]
    while waiting:
        made, pending = waiting.pop()
        following = ready(pending)
        if not following:
            yield made
        # The smallest operation comes to the top last, so that its programs are yielded first.
        for operation in sorted(following, reverse=True):
            waiting.append((made + [operation], without(pending, operation)))


def idle(program):
    """Return the ascending list of the numbers of the operations that can be left out, each alone."""
    check_program(program)
    whole = meaning_of(program)
    return [at for at in range(len(program)) if meaning_of(program[:at] + program[at + 1:]) == whole]


def shortest_of(triple):
    """Return the first one, in ascending order, of the shortest programs of a meaning."""
    pending = operations_of(triple)
    made = []
    while ready(pending):
        operation = min(ready(pending))
        made.append(operation)
        pending = without(pending, operation)
    return made


def operations_of(triple):
    """Return the operations of front and of back, in the order of making, and those that drop."""
    front, back, dropped = triple
    return (
        tuple([(verb_of("front", case), word) for word, case in front[::-1]]),
        tuple([(verb_of("back", case), word) for word, case in back]),
        tuple([(verb_of("out", "present"), word) for word in dropped]),
    )


def verb_of(place, case):
    """Return the verb that brings its word to this place in this case alone."""
    return [verb for verb in MOVES if MOVES[verb] == (place, case)][0]


def ready(pending):
    """Return the list of those of the pending operations that may come next."""
    front, back, drops = pending
    return [operation for operation in front[:1] + back[:1] + drops if not waits(operation, pending)]


def waits(operation, pending):
    """Return whether the operation has to come after a pending one of its word."""
    verb, word = operation
    front, back, _ = pending
    # A word that was put in is present from then on, and would be lifted or sunk, too.
    return verb in ("addfront", "addback") and (("lift", word) in front or ("sink", word) in back)


def without(pending, operation):
    """Return the pending operations without this one."""
    return tuple([tuple([other for other in part if other != operation]) for part in pending])


def merges(front, back):
    """Return the number of ways to merge the operations of front with those of back."""
    ways = {(front, back, ()): 1}
    for _ in front + back:
        following = {}
        for pending, number in ways.items():
            for operation in ready(pending):
                rest = without(pending, operation)
                following[rest] = following.get(rest, 0) + number
        ways = following
    return ways[((), (), ())]

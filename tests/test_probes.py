"""Point 13: rows that tell programs apart, and programs that are read off what they make of such rows."""

import itertools
import math
import random
import unittest

from frontback.errors import InvalidFences, InvalidNumber, InvalidResults, NoProgram
from frontback.meanings import agree, meaning
from frontback.probes import fewest, learned, probes, tells
from frontback.rows import is_program, is_row, run
from tests import samples

EIGHT = ("d", "b", "front", "a", "zz", "present", "h", "c")
ONE_WORD = [programs[0] for programs in samples.all_shortest_programs(("x",)).values()]
TWO_WORDS = samples.all_programs()
OWN = ("s", "t")


def are_told(programs, rows):
    """Whether no two of the programs, of which none agree, make the same of all the rows."""
    results = {tuple(samples.made(program, row) for row in rows) for program in programs}
    return len(results) == len(programs)


def results_of(program, names, *fences):
    """What the program makes of the probes."""
    return [samples.made(program, row) for row in probes(names, *fences)]


def behaviour(program):
    """What a program with the words x and y makes of many rows."""
    return tuple(samples.made(program, row) for row in samples.ROWS)


class Tells(unittest.TestCase):
    def assert_tells(self, names, rows, expected):
        for order in itertools.permutations(names):
            for turned in (rows, rows[::-1], rows + rows):
                self.assertIs(tells(order, turned), expected, [order, turned])

    def test_example(self):
        self.assertEqual([tells(("x",), [("s", "x", "t"), ("s",)]), tells(("x",), [("x", "t"), ("s",)])], [True, False])

    def test_one_name(self):
        self.assert_tells(("x",), [("s", "x", "t"), ("t",)], True)
        self.assert_tells(("x",), [("s", "x"), ("x", "s"), ("s",)], True)
        self.assert_tells(("x",), [("s", "a", "x", "t"), ("b",)], True)
        self.assert_tells(("x",), [], False)
        self.assert_tells(("x",), [("s", "x"), ("s",)], False)
        self.assert_tells(("x",), [("x", "s"), ("s",)], False)
        self.assert_tells(("x",), [("s", "x", "t")], False)
        self.assert_tells(("x",), [("s", "x", "t"), ()], False)
        self.assert_tells(("x",), [("s", "t")], False)

    def test_two_names(self):
        rows = [("s", "x", "y", "t"), ("s", "x"), ("y", "t"), ("t",)]
        self.assert_tells(("x", "y"), rows, True)
        for at in range(4):
            self.assert_tells(("x", "y"), rows[:at] + rows[at + 1:], False)
        # The other name is no stranger, before a name, behind it and in a row without it.
        self.assert_tells(("x", "y"), [("x", "y", "t"), ("y", "x"), ("y", "s"), ("x", "s"), ("s",)], False)
        self.assert_tells(("x", "y"), [("s", "x", "y"), ("y", "x"), ("s", "y"), ("s", "x"), ("s",)], False)
        self.assert_tells(("x", "y"), [("s", "x", "y", "t"), ("s", "x", "t"), ("s", "y", "t"), ()], True)
        self.assert_tells(("x", "y"), [("s", "x", "y", "t"), ("s", "x", "t"), ("y",), ()], False)

    def test_strangers_need_not_be_direct(self):
        self.assert_tells(("x", "y"), [("s", "x", "y", "t"), ("x", "t"), ("s", "y"), ("t",)], True)
        self.assert_tells(("x", "y"), [("s", "y", "x", "t"), ("x", "t"), ("s", "y"), ("t",)], True)
        self.assert_tells(("x", "y"), [("s", "x", "y"), ("x", "t"), ("s", "y"), ("t",)], False)

    def test_all_lists_of_two_rows_for_one_name(self):
        rows = samples.rows_of(("x", "s", "t"))
        found = set()
        for pair in itertools.product(rows, repeat=2):
            self.assertIs(tells(("x",), list(pair)), are_told(ONE_WORD, pair), pair)
            found.add(are_told(ONE_WORD, pair))
        self.assertEqual(found, {True, False})

    def test_lists_of_rows_for_two_names(self):
        source = random.Random(41)
        seen = []
        for _ in range(500):
            rows = source.sample(samples.ROWS, source.randint(3, 6))
            expected = are_told(TWO_WORDS, rows)
            seen.append(expected)
            self.assertIs(tells(("y", "x"), rows), expected, rows)
        for _ in range(500):
            rows = [row[:source.randint(0, 4)] for row in probes(("x", "y"), OWN)]
            rows[source.randrange(4)] = source.choice(samples.ROWS)
            expected = are_told(TWO_WORDS, rows)
            seen.append(expected)
            self.assertIs(tells(("x", "y"), rows), expected, rows)
        self.assertGreater(min(seen.count(True), seen.count(False)), 40)

    def test_many_names(self):
        for size in range(1, 9):
            names = EIGHT[:size]
            rows = probes(names)
            self.assertIs(tells(names, rows), True)
            self.assertIs(tells(names[::-1], rows), True)
            for at in range(len(rows)):
                self.assertIs(tells(names, rows[:at] + rows[at + 1:]), False)
            for name in names:
                self.assertIs(tells(names, [tuple(word for word in row if word != name) for row in rows]), False)
            self.assertIs(tells(names, [row[1:] for row in rows]), False)
            self.assertIs(tells(names, [row[:-1] for row in rows]), False)
            self.assertIs(tells(("other",) + names[1:], rows), False)
            self.assertIs(tells(names[:7] + ("other",), rows), False)

    def test_every_pair_counts(self):
        rows = probes(EIGHT)
        for one, other in itertools.permutations(EIGHT, 2):
            for both in [(True, True), (True, False), (False, False)]:
                rest = [row for row in rows if (one in row, other in row) != both]
                self.assertIs(tells(EIGHT, rest), False)


class Fewest(unittest.TestCase):
    def test_example(self):
        self.assertEqual([fewest(1), fewest(4), fewest(8)], [2, 5, 6])

    def test_all(self):
        self.assertEqual([fewest(number) for number in range(1, 9)], [2, 4, 4, 5, 6, 6, 6, 6])
        for number in range(1, 9):
            least = next(k for k in range(2, 20) if number <= math.comb(k - 1, k // 2 - 1))
            self.assertEqual(fewest(number), least)
            self.assertIs(type(fewest(number)), int)

    def test_wrong_numbers(self):
        for number in (0, 9, -1, True, False, "1", None, [1], (1,), 10 ** 999):
            with self.assertRaises(InvalidNumber):
                fewest(number)

    def test_fewer_rows_never_do(self):
        rows = samples.rows_of(("x", "s", "t"))
        self.assertFalse(any(tells(("x",), [row]) or are_told(ONE_WORD, [row]) for row in rows))
        some = [row for row in samples.ROWS if ("s" in row) == ("t" in row) and row.count("s") == 1]
        for three in itertools.combinations(some, 3):
            self.assertIs(tells(("x", "y"), list(three)), False)
        for three in list(itertools.combinations(some, 3))[::40]:
            self.assertIs(are_told(TWO_WORDS, three), False)


class Probes(unittest.TestCase):
    def assert_probes(self, names, rows, first, last):
        self.assertIs(type(rows), list)
        self.assertEqual(len(rows), fewest(len(names)))
        for row in rows:
            self.assertIs(is_row(row), True)
            self.assertEqual((row[0], row[-1]), (first, last))
            self.assertEqual(list(row[1:-1]), [name for name in names if name in row])
        self.assertIs(tells(names, rows), True)

    def test_all_numbers_of_names(self):
        for size in range(1, 9):
            for names in (EIGHT[:size], samples.LETTER_WORDS[:size], EIGHT[8 - size:]):
                self.assert_probes(names, probes(names), "left", "right")
                self.assert_probes(names, probes(names, ("right", "left")), "right", "left")
                self.assert_probes(names, probes(names, ("always", "x")), "always", "x")

    def test_rows_tell_all_programs_apart(self):
        self.assertIs(are_told(ONE_WORD, probes(("x",))), True)
        self.assertIs(are_told(TWO_WORDS, probes(("x", "y"))), True)
        self.assertIs(are_told(TWO_WORDS, probes(("y", "x"), OWN)), True)

    def test_equal_calls_return_equal_lists(self):
        for size in range(1, 9):
            names = EIGHT[:size]
            rows = probes(names)
            self.assertEqual(probes(names), rows)
            self.assertEqual(probes(tuple(list(names)), ("left", "right")), rows)
            self.assertEqual(probes(names, fences=("le" + "ft", "right")), rows)
            rows.clear()
            self.assertEqual(len(probes(names)), fewest(size))

    def test_names_that_are_fences(self):
        for names in [("left",), ("right",), ("a", "left"), ("right", "a"), ("left", "right"), EIGHT[:7] + ("right",)]:
            with self.assertRaises(InvalidFences):
                probes(names)
            with self.assertRaises(InvalidFences):
                learned(names, [()] * fewest(len(names)))
            self.assert_probes(names, probes(names, ("s", "t")), "s", "t")
            with self.assertRaises(InvalidFences):
                probes(names, ("s", names[-1]))
            with self.assertRaises(InvalidFences):
                probes(names, (names[0], "s"))

    def test_names_like_fences(self):
        self.assert_probes(("lefty", "aright"), probes(("lefty", "aright")), "left", "right")

    def test_two_rows_are_enough_for_many_programs(self):
        source = random.Random(42)
        words = ("x", "y", "z", "w")
        rows = [("s",) + words + ("t",), ("s", "t")]
        choices = [
            [verb for verb in samples.VERBS if verb not in barred]
            for barred in [("lift", "sink"), ("lift", "addback"), ("addfront", "sink"), ("addfront", "addback")]
        ]
        found = []
        for _ in range(3000):
            size = source.randint(1, 4)
            one, other = [
                [(source.choice(verbs), source.choice(words[:size])) for _ in range(source.randint(1, 3))]
                for verbs in source.choices(choices, k=2)
            ]
            if source.randrange(4) == 0:
                other = one + other[:1] + one
            same = all(samples.made(one, row) == samples.made(other, row) for row in rows)
            self.assertIs(agree(one, other), same, [one, other])
            found.append(same)
        self.assertGreater(min(found.count(True), found.count(False)), 200)


class Learned(unittest.TestCase):
    def assert_learned(self, program, names, *fences):
        results = results_of(program, names, *fences)
        found = learned(names, results, *fences)
        self.assertIs(is_program(found), True)
        self.assertEqual(results_of(found, names, *fences), results)
        self.assertEqual(meaning(found), meaning(program))
        self.assertLessEqual({word for verb, word in found}, set(names))
        self.assertEqual(len(found), sum(len(part) for part in meaning(program)))

    def assert_no_program(self, names, results, *fences):
        with self.assertRaises(NoProgram):
            learned(names, results, *fences)

    def test_example(self):
        program = [("lift", "x"), ("addback", "y"), ("front", "x"), ("sink", "y")]
        results = [run(program, row) for row in probes(("x", "y"))]
        self.assertEqual([len(results), agree(learned(("x", "y"), results), program)], [4, True])

    def test_one_name(self):
        for program in ONE_WORD:
            self.assert_learned(program, ("x",))
            self.assert_learned(program, ("x",), OWN)

    def test_two_names(self):
        for program in TWO_WORDS:
            self.assert_learned(program, ("x", "y"))
            self.assert_learned(program, ("y", "x"), OWN)

    def test_shortest_programs_are_found(self):
        searched = samples.all_shortest_programs(("x", "y"))
        for program in TWO_WORDS:
            self.assertIn(learned(("x", "y"), results_of(program, ("x", "y"))), searched[behaviour(program)])

    def test_the_empty_program(self):
        for size in range(1, 9):
            self.assertEqual(learned(EIGHT[:size], probes(EIGHT[:size])), [])

    def test_long_programs(self):
        source = random.Random(43)
        for size in range(1, 9):
            for fences in [(), (("front", "left"),) if size < 3 else (("left", "back"),)]:
                for _ in range(40):
                    program = samples.random_program(source, EIGHT[:size], source.randint(0, 60))
                    self.assert_learned(program, EIGHT[:size], *fences)

    def test_results_of_ten_words(self):
        names = samples.LETTER_WORDS[:8]
        program = [("front", name) for name in names[:4]] + [("back", name) for name in names[4:]]
        results = results_of(program, names)
        self.assertEqual({len(result) for result in results}, {10})
        self.assert_learned(program, names)
        program = [("lift", name) for name in names] + [("addback", name) for name in names]
        self.assert_learned(program, names)

    def test_all_results_for_one_name(self):
        rows = samples.rows_of(("x", "left", "right", "q"))
        known = {tuple(results_of(program, ("x",))): program for program in ONE_WORD}
        many = 0
        for results in itertools.product(rows, repeat=2):
            if results in known:
                self.assertEqual(meaning(learned(("x",), list(results))), meaning(known[results]))
                many += 1
            else:
                self.assert_no_program(("x",), list(results))
        self.assertEqual(many, 10)

    def test_changed_results_for_two_names(self):
        source = random.Random(44)
        rows = samples.rows_of(("x", "y", "left", "right"))
        known = {tuple(results_of(program, ("x", "y"))): program for program in TWO_WORDS}
        programs = list(known)
        for _ in range(2000):
            results = list(source.choice(programs))
            other = source.choice(programs)
            for at in source.sample(range(4), source.randint(1, 3)):
                results[at] = source.choice([other[at], source.choice(rows)])
            if tuple(results) in known:
                self.assertEqual(meaning(learned(("x", "y"), results)), meaning(known[tuple(results)]))
            else:
                self.assert_no_program(("x", "y"), results)

    def test_results_put_together_for_two_names(self):
        known = {tuple(results_of(program, ("x", "y"))): program for program in TWO_WORDS}
        choices = [sorted({results[at] for results in known}) for at in range(4)]
        every = [results for results in itertools.product(*choices) if results not in known]
        for results in every[::97]:
            self.assert_no_program(("x", "y"), list(results))

    def test_words_that_are_no_names(self):
        for place in (("q", "left", "right"), ("left", "q", "right"), ("left", "right", "q")):
            self.assert_no_program(("x",), [place, place])
        self.assert_no_program(("x",), [("q", "left", "x", "right"), ("q", "left", "right")])
        self.assert_no_program(("x",), [("left", "x", "right", "q"), ("left", "right", "q")])
        moved = [("right", "left", "x"), ("right", "left")]
        self.assert_no_program(("x",), moved)
        self.assert_no_program(("x",), [("x", "right", "left"), ("right", "left")])

    def test_fences_that_are_missing(self):
        for gone in ("left", "right"):
            for program in ONE_WORD:
                results = results_of(program, ("x",))
                self.assert_no_program(("x",), [tuple(word for word in row if word != gone) for row in results])
        self.assert_no_program(("x",), [(), ()])
        self.assert_no_program(("x",), [("x",), ()])
        self.assert_no_program(("x",), [("s", "x", "t"), ("s", "t")])
        self.assertEqual(learned(("x",), [("s", "x", "t"), ("s", "t")], ("s", "t")), [])

    def test_entries_that_no_program_can_make(self):
        # Each half would have to be made before the other one of its side: none can be the first.
        front, back = (("v", "present"), ("w", "absent")), (("v", "absent"), ("w", "present"))
        results = [samples.stands_for((front, back, ()), row) for row in probes(("v", "w"))]
        self.assert_no_program(("v", "w"), results)
        turned = (front[::-1], back[::-1], ())
        results = [samples.stands_for(turned, row) for row in probes(("v", "w"))]
        self.assertEqual(meaning(learned(("v", "w"), results)), turned)

    def test_present_further_out_than_absent(self):
        for triple in [((("x", "present"), ("y", "always"), ("x", "absent")), (), ()),
                       ((), (("x", "absent"), ("y", "always"), ("x", "present")), ()),
                       ((("x", "absent"),), (), ("x",)), ((), (("x", "absent"),), ("x",))]:
            results = [samples.stands_for(triple, row) for row in probes(("x", "y"))]
            self.assert_no_program(("x", "y"), results)

    def test_another_order_in_the_row_with_all_names(self):
        names = ("a", "b", "c")
        program = [("front", name) for name in names]
        results = results_of(program, names)
        at = max(range(4), key=lambda number: len(probes(names)[number]))
        for turned in itertools.permutations(names):
            changed = results[:at] + [turned + ("left", "right")] + results[at + 1:]
            if turned == names[::-1]:
                self.assertEqual(learned(names, changed), program)
            else:
                self.assert_no_program(names, changed)

    def test_changed_results_for_many_names(self):
        source = random.Random(45)
        for _ in range(300):
            names = EIGHT[:source.randint(3, 8)]
            program = samples.random_program(source, names, source.randint(1, 30))
            results = results_of(program, names)
            at = source.randrange(len(results))
            words = list(results[at])
            source.shuffle(words)
            changed = results[:at] + [tuple(words)] + results[at + 1:]
            try:
                found = learned(names, changed)
            except NoProgram:
                continue
            self.assertEqual(results_of(found, names), changed)

    def test_numbers_of_words_in_results(self):
        names = EIGHT
        self.assert_no_program(names, [samples.LETTER_WORDS[:10]] * 6)
        for at in range(6):
            for size in (11, 12, 20):
                results = [()] * at + [samples.LETTER_WORDS[:size]] + [()] * (5 - at)
                with self.assertRaises(InvalidResults):
                    learned(names, results)

    def test_numbers_of_results(self):
        for size in range(1, 9):
            for number in range(9):
                if number == fewest(size):
                    self.assert_no_program(EIGHT[:size], [()] * number)
                else:
                    with self.assertRaises(InvalidResults):
                        learned(EIGHT[:size], [()] * number)


if __name__ == "__main__":
    unittest.main()

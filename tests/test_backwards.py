"""Point 14: rows before a program was run, and what is sure of the rows after it."""

import collections
import itertools
import math
import random
import unittest

from frontback.backwards import always_before, source, sources, sure
from frontback.errors import InvalidNames, InvalidProgram, InvalidRow, InvalidWord, NoSource
from tests import samples

EIGHT = ("d", "b", "front", "a", "zz", "present", "h", "c")
ALL_ROWS_OF_EIGHT = 109601
SHORT_PROGRAMS = samples.programs_of(("x", "y"), 2)


class Case(unittest.TestCase):
    def assert_sources(self, program, row, names, found):
        """Compares with found, the list of all sources."""
        self.assertEqual(sources(program, row, names), len(found), [program, row, names])
        self.assertIs(type(sources(program, row, names)), int)
        if not found:
            with self.assertRaises(NoSource):
                source(program, row, names)
        else:
            first = source(program, row, names)
            self.assertIn(first, found)
            self.assertEqual(len(first), min(len(other) for other in found), [program, row, names])

    def assert_all_sources(self, program, rows, names):
        """Compares for each of the rows with a run of the program on all rows over the names."""
        found = {}
        for row in samples.rows_of(names):
            found.setdefault(samples.made(program, row), []).append(row)
        for row in rows:
            self.assert_sources(program, row, names, found.get(row, []))
        return found


class Sources(Case):
    def test_examples(self):
        program = [("front", "x"), ("drop", "z")]
        self.assertEqual(sources(program, ("x", "a"), ("a", "x", "z")), 11)
        self.assertEqual(source(program, ("x", "a"), ("a", "x", "z")), ("a",))
        self.assertEqual(sources(program, ("a", "x"), ("a", "x")), 0)

    def test_short_programs(self):
        rows = samples.rows_of(("x", "y", "s"))
        for program in SHORT_PROGRAMS:
            for names in [("x",), ("s",), ("x", "y"), ("y", "s"), ("s", "y", "x")]:
                self.assert_all_sources(program, rows, names)

    def test_longer_programs(self):
        chance = random.Random(61)
        words = ("a", "b", "c", "d", "e", "f")
        for _ in range(150):
            program = samples.random_program(chance, words[:chance.randint(1, 6)],
                                             chance.randint(0, 12))
            names = tuple(chance.sample(words, chance.randint(1, 5)))
            made = list(self.assert_all_sources(program, [], names))
            rows = chance.sample(made, min(12, len(made)))
            rows += [samples.random_row(chance, words) for _ in range(5)] + [row[::-1] for row in rows[:3]]
            self.assert_all_sources(program, rows, names)

    def test_all_sources_together_are_all_rows(self):
        chance = random.Random(62)
        for size in range(1, 6):
            names = EIGHT[:size]
            rows = samples.rows_of(names)
            for _ in range(5):
                program = samples.random_program(chance, EIGHT, chance.randint(0, 9))
                made = {samples.made(program, row) for row in rows}
                self.assertEqual(sum(sources(program, row, names) for row in made), len(rows))

    def test_words_of_the_program_that_are_no_names(self):
        self.assertEqual(sources([("front", "q")], ("q", "x"), ("x",)), 1)
        self.assertEqual(source([("front", "q")], ("q", "x"), ("x",)), ("x",))
        self.assertEqual(sources([("front", "q")], ("x",), ("x",)), 0)
        self.assertEqual(sources([("addback", "q")], ("x", "q"), ("x",)), 1)
        self.assertEqual(sources([("addback", "q")], ("q", "x"), ("x",)), 0)
        for verb in ("lift", "sink", "drop"):
            self.assertEqual(sources([(verb, "q")], ("x",), ("x", "y")), 1)
            self.assertEqual(sources([(verb, "q")], ("q", "x"), ("x", "y")), 0)

    def test_names_that_are_not_in_the_program(self):
        self.assertEqual(sources([("drop", "q")], ("y", "x"), ("x", "y", "z")), 1)
        self.assertEqual(source([("drop", "q")], ("y", "x"), ("x", "y", "z")), ("y", "x"))
        self.assertEqual(sources([("drop", "z")], ("y", "x"), ("x", "y", "z")), 4)
        self.assertEqual(sources([("drop", "x"), ("drop", "y")], (), ("x", "y", "z")), 5)

    def test_a_row_with_words_that_are_no_names(self):
        for program in ([], [("front", "x")], [("drop", "s")], [("lift", "s")], [("sink", "x")]):
            self.assert_sources(program, ("x", "s"), ("x", "y"), [])
            self.assert_sources(program, ("s",), ("x", "y"), [])
        self.assert_sources([("back", "s")], ("x", "s"), ("x", "y"), [("x",)])

    def test_the_empty_program(self):
        for row in samples.rows_of(("x", "y", "z")):
            self.assert_sources([], row, ("z", "y", "x"), [row])
            self.assert_sources([], row + ("s",), ("z", "y", "x"), [])

    def test_the_empty_row(self):
        self.assert_sources([], (), ("x",), [()])
        self.assert_sources([("front", "x")], (), ("x", "y"), [])
        self.assert_sources([("addfront", "x")], (), ("x", "y"), [])
        self.assert_sources([("drop", "x")], (), ("x",), [(), ("x",)])
        self.assert_sources([("drop", "x")], (), ("x", "y"), [(), ("x",)])
        self.assert_sources([("lift", "x"), ("sink", "y")], (), ("x", "y"), [()])

    def test_the_shortest_source(self):
        self.assertEqual(source([("front", "x")], ("x",), ("x", "y")), ())
        self.assertEqual(source([("lift", "x")], ("x", "y"), ("x", "y")), source([], ("x", "y"), ("x", "y")))
        self.assertEqual(source([("drop", name) for name in EIGHT], (), EIGHT), ())
        self.assertEqual(source([("drop", name) for name in EIGHT[1:]], ("d",), EIGHT), ("d",))
        self.assertEqual(sorted(source([("drop", "x"), ("lift", "y")], ("y",), ("x", "y"))), ["y"])
        # The word is in the row only if another one has not been there.
        self.assert_sources([("addback", "x"), ("lift", "x")], ("x", "y"), ("x", "y"), [("y",), ("x", "y"), ("y", "x")])

    def test_a_row_of_twenty_words(self):
        words = samples.LETTER_WORDS[:20]
        self.assert_sources([], words, words[:8], [])
        program = [("back", word) for word in words[8:20]]
        self.assert_sources(program, words, words[:8], [words[:8]])
        self.assert_sources(program, words[::-1], words[:8], [])
        self.assertEqual(sources(program, words[12:20], words[12:20]), 0)
        self.assertEqual(sources(program, words[8:20], words[8:16]), ALL_ROWS_OF_EIGHT)


class EightNames(Case):
    def test_all_rows(self):
        self.assertEqual(sources([("drop", name) for name in EIGHT], (), EIGHT), ALL_ROWS_OF_EIGHT)
        self.assertEqual(sources([("front", name) for name in EIGHT], EIGHT[::-1], EIGHT), ALL_ROWS_OF_EIGHT)
        self.assertEqual(sources([("front", name) for name in EIGHT], EIGHT, EIGHT), 0)
        self.assertEqual(sources([("lift", name) for name in EIGHT], EIGHT[::-1], EIGHT), math.factorial(8))
        # The sources are the beginnings of the row.
        self.assertEqual(sources([("addback", name) for name in EIGHT], EIGHT, EIGHT), 9)
        self.assertEqual(sources([], EIGHT, EIGHT), 1)

    def test_some_programs_on_all_rows(self):
        chance = random.Random(63)
        rows = samples.rows_of(EIGHT)
        self.assertEqual(len(rows), ALL_ROWS_OF_EIGHT)
        for size in (3, 6):
            program = samples.random_program(chance, EIGHT, size)
            found = collections.Counter(samples.made(program, row) for row in rows)
            for row in chance.sample(list(found), 60) + chance.sample(rows, 60):
                self.assertEqual(sources(program, row, EIGHT), found[row], [program, row])
                if row in found:
                    self.assertEqual(samples.made(program, source(program, row, EIGHT)), row)


class Sure(unittest.TestCase):
    def assert_sure(self, program):
        words = sorted({word for verb, word in program})
        made = [set(samples.made(program, row)) for size in range(len(words) + 1)
                for row in itertools.combinations(words + ["stranger"], size)]
        always = tuple(word for word in words if all(word in row for row in made))
        never = tuple(word for word in words if not any(word in row for row in made))
        self.assertEqual(sure(program), (always, never), program)

    def test_example(self):
        self.assertEqual(sure([("front", "x"), ("drop", "z")]), (("x",), ("z",)))

    def test_one_operation(self):
        for verb in samples.VERBS:
            always = ("x",) if verb in ("front", "back", "addfront", "addback") else ()
            never = ("x",) if verb == "drop" else ()
            self.assertEqual(sure([(verb, "x")]), (always, never))

    def test_the_empty_program(self):
        self.assertEqual(sure([]), ((), ()))

    def test_last_operation_counts(self):
        self.assertEqual(sure([("front", "x"), ("drop", "x")]), ((), ("x",)))
        self.assertEqual(sure([("drop", "x"), ("addback", "x")]), (("x",), ()))
        self.assertEqual(sure([("drop", "x"), ("lift", "x"), ("sink", "x")]), ((), ("x",)))
        self.assertEqual(sure([("lift", "x"), ("addback", "x")]), (("x",), ()))

    def test_ascending(self):
        words = ("m", "b", "zz", "a", "z", "ab", "front", "y", "back", "aa", "x", "c")
        self.assertEqual(sure([("back", word) for word in words]), (tuple(sorted(words)), ()))
        self.assertEqual(sure([("drop", word) for word in words]), ((), tuple(sorted(words))))
        mixed = [("drop", word) for word in words[:6]] + [("addfront", word) for word in words[6:]]
        self.assertEqual(sure(mixed * 5), (tuple(sorted(words[6:])), tuple(sorted(words[:6]))))

    def test_short_programs(self):
        for program in SHORT_PROGRAMS:
            self.assert_sure(program)

    def test_longer_programs(self):
        chance = random.Random(64)
        for _ in range(150):
            self.assert_sure(samples.random_program(chance, EIGHT[:chance.randint(1, 6)],
                                                    chance.randint(0, 15)))


class AlwaysBefore(unittest.TestCase):
    def expected(self, program, word, other, rows):
        made = [samples.made(program, row) for row in rows]
        return all(row.index(word) < row.index(other) for row in made if word in row and other in row)

    def test_examples(self):
        program = [("front", "x"), ("drop", "z")]
        self.assertIs(always_before(program, "x", "a"), True)
        self.assertIs(always_before(program, "a", "b"), False)

    def test_no_row_has_both(self):
        program = [("front", "x"), ("drop", "z")]
        for word in ("x", "a"):
            self.assertIs(always_before(program, "z", word), True)
            self.assertIs(always_before(program, word, "z"), True)

    def test_the_empty_program(self):
        self.assertIs(always_before([], "a", "b"), False)

    def test_both_put_in(self):
        self.assertIs(always_before([("back", "x"), ("back", "y")], "x", "y"), True)
        self.assertIs(always_before([("back", "x"), ("back", "y")], "y", "x"), False)
        # Each of the four choices of the words counts.
        self.assertIs(always_before([("addback", "x"), ("addback", "y")], "x", "y"), False)
        self.assertIs(always_before([("lift", "x"), ("addback", "x"), ("back", "y")], "x", "y"), True)
        self.assertIs(always_before([("addfront", "x"), ("sink", "y"), ("addback", "y")], "x", "y"), True)
        self.assertIs(always_before([("lift", "x"), ("addback", "y")], "x", "y"), True)
        self.assertIs(always_before([("lift", "x"), ("addfront", "y")], "x", "y"), False)
        self.assertIs(always_before([("front", "x"), ("addfront", "y")], "x", "y"), False)

    def test_short_programs(self):
        rows = samples.rows_of(("x", "y", "s"))
        for program in SHORT_PROGRAMS:
            for word, other in itertools.permutations(("x", "y", "s"), 2):
                self.assertIs(always_before(program, word, other), self.expected(program, word, other, rows), program)

    def test_longer_programs(self):
        chance = random.Random(65)
        words = ("a", "b", "c", "d")
        rows = samples.rows_of(words)
        for _ in range(200):
            program = samples.random_program(chance, words, chance.randint(2, 9))
            word, other = chance.sample(words, 2)
            self.assertIs(always_before(program, word, other), self.expected(program, word, other, rows), program)

    def test_equal_words(self):
        for program in ([], [("front", "x")]):
            for word in ("x", "y"):
                with self.assertRaises(InvalidWord):
                    always_before(program, word, word)
        with self.assertRaises(InvalidProgram):
            always_before([("front", "X")], "x", "x")


class Order(unittest.TestCase):
    def test_first_wrong_argument(self):
        for function in (sources, source):
            with self.assertRaises(InvalidProgram):
                function([("up", "x")], ("x", "x"), ())
            with self.assertRaises(InvalidRow):
                function([("front", "x")], ("x", "x"), ())
            # There is no source, but the names are wrong, too.
            with self.assertRaises(InvalidNames):
                function([("front", "x")], (), ())
            with self.assertRaises(InvalidNames):
                function([("front", "x")], (), samples.LETTER_WORDS[:9])


if __name__ == "__main__":
    unittest.main()

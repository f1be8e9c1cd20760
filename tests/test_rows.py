"""Points 3, 4 and 9: words, rows, operations, programs, run, steps and fate."""

import random
import unittest

from frontback.errors import InvalidWord
from frontback.rows import fate, is_program, is_row, run, steps
from tests import samples

PROGRAM = [("lift", "x"), ("front", "y"), ("addback", "x"), ("drop", "z")]

# What each verb makes of a row with the word x in the middle, at the ends, alone, and without it.
TABLE = {
    "front": [("x", "a", "b"), ("x", "a", "b"), ("x", "a", "b"), ("x",), ("x", "a", "b"), ("x",)],
    "back": [("a", "b", "x"), ("a", "b", "x"), ("a", "b", "x"), ("x",), ("a", "b", "x"), ("x",)],
    "drop": [("a", "b"), ("a", "b"), ("a", "b"), (), ("a", "b"), ()],
    "addfront": [("a", "x", "b"), ("x", "a", "b"), ("a", "b", "x"), ("x",), ("x", "a", "b"), ("x",)],
    "addback": [("a", "x", "b"), ("x", "a", "b"), ("a", "b", "x"), ("x",), ("a", "b", "x"), ("x",)],
    "lift": [("x", "a", "b"), ("x", "a", "b"), ("x", "a", "b"), ("x",), ("a", "b"), ()],
    "sink": [("a", "b", "x"), ("a", "b", "x"), ("a", "b", "x"), ("x",), ("a", "b"), ()],
}
TABLE_ROWS = [("a", "x", "b"), ("x", "a", "b"), ("a", "b", "x"), ("x",), ("a", "b"), ()]

FATES = {
    "front": ("front", "front"),
    "back": ("back", "back"),
    "drop": ("out", "out"),
    "addfront": ("middle", "front"),
    "addback": ("middle", "back"),
    "lift": ("front", "out"),
    "sink": ("back", "out"),
}


class Rows(unittest.TestCase):
    def test_rows(self):
        rows = [
            (), ("a",), ("z",), ("b", "a"), ("abcdefgh",), ("front", "always", "drop"), ("aa", "a"), ("zzzzzzzz", "a"),
            samples.LETTER_WORDS[:19], samples.LETTER_WORDS[:20], samples.LETTER_WORDS[6:],
        ]
        for row in rows:
            with self.subTest(row):
                self.assertIs(is_row(row), True)

    def test_every_small_letter(self):
        for letter in samples.LETTERS:
            self.assertIs(is_row((letter,)), True)
            self.assertIs(is_row(("a" + letter + "zzzzzz",)), True)

    def test_no_other_sign(self):
        for sign in [chr(code) for code in range(32, 127)] + ["\t", "\n", "\r"]:
            for word in (sign, "a" + sign, sign + "a", "a" + sign + "b"):
                self.assertIs(is_row((word,)), sign in samples.LETTERS, repr(word))

    def test_lengths_of_words(self):
        for size in range(12):
            self.assertIs(is_row(("abcdefghijkl"[:size],)), 1 <= size <= 8, size)

    def test_numbers_of_words(self):
        for size in range(27):
            self.assertIs(is_row(samples.LETTER_WORDS[:size]), size <= 20, size)

    def test_no_rows(self):
        for value in samples.WRONG_ROWS:
            with self.subTest(repr(value)[:80]):
                self.assertIs(is_row(value), False)


class Programs(unittest.TestCase):
    def test_programs(self):
        programs = [
            [], PROGRAM, [("front", "front"), ("back", "always")], [("drop", "abcdefgh"), ("drop", "a")],
            [("front", "x")] * 60, [("sink", word) for word in samples.TWELVE],
            [(verb, word) for verb in samples.VERBS[:5] for word in samples.TWELVE],
        ]
        for program in programs:
            with self.subTest(program[:5]):
                self.assertIs(is_program(program), True)

    def test_every_verb(self):
        for verb in samples.VERBS:
            self.assertIs(is_program([(verb, "x")]), True)
            self.assertIs(is_program([("x", verb)]), False)

    def test_numbers_of_operations(self):
        for size in range(0, 70):
            self.assertIs(is_program([("lift", "x"), ("drop", "y")] * (size // 2) + [("sink", "x")] * (size % 2)),
                          size <= 60, size)

    def test_numbers_of_words(self):
        for size in range(0, 20):
            self.assertIs(is_program([("lift", word) for word in samples.LETTERS[:size]]), size <= 12, size)
            self.assertIs(is_program([("lift", word) for word in samples.LETTERS[:size]] * 3), size <= 12, size)

    def test_verbs_are_no_words_of_the_program(self):
        program = [(verb, word) for verb in samples.VERBS[:5] for word in samples.TWELVE]
        self.assertIs(is_program(program), True)

    def test_no_programs(self):
        for value in samples.WRONG_PROGRAMS:
            with self.subTest(repr(value)[:80]):
                self.assertIs(is_program(value), False)

    def test_a_row_is_no_program(self):
        self.assertIs(is_program(()), False)
        self.assertIs(is_row([]), False)


class Run(unittest.TestCase):
    def test_examples(self):
        self.assertEqual(run(PROGRAM, ("a", "x", "z")), ("y", "x", "a"))
        self.assertEqual(run(PROGRAM, ("z", "a")), ("y", "a", "x"))

    def test_table(self):
        for verb in samples.VERBS:
            for row, expected in zip(TABLE_ROWS, TABLE[verb]):
                with self.subTest([verb, row]):
                    self.assertEqual(run([(verb, "x")], row), expected)

    def test_empty(self):
        self.assertEqual(run([], ()), ())
        self.assertEqual(run([], ("b", "a")), ("b", "a"))
        self.assertEqual(run([("drop", "x"), ("lift", "x"), ("sink", "x")], ()), ())

    def test_in_order(self):
        self.assertEqual(run([("front", "a"), ("front", "b")], ()), ("b", "a"))
        self.assertEqual(run([("back", "a"), ("back", "b")], ()), ("a", "b"))
        self.assertEqual(run([("drop", "a"), ("addback", "a")], ("a", "b")), ("b", "a"))

    def test_words_that_are_verbs_and_cases(self):
        self.assertEqual(run([("front", "drop"), ("drop", "front")], ("front", "always")), ("drop", "always"))

    def test_more_than_twenty_words(self):
        row = samples.LETTER_WORDS[:20]
        program = [("front", word) for word in ("aa", "ab", "ac")] + [("addback", word) for word in ("ba", "bb")]
        self.assertEqual(run(program, row), ("ac", "ab", "aa") + row + ("ba", "bb"))
        twelve = tuple(word * 2 for word in samples.TWELVE)
        self.assertEqual(run([("back", word) for word in twelve], row), row + twelve)

    def test_returns_a_tuple(self):
        for row in ((), ("a",), ("x", "a")):
            for program in ([], [("front", "x")], [("drop", "x")], PROGRAM):
                self.assertIs(type(run(program, row)), tuple)

    def test_like_the_reference(self):
        source = random.Random(4)
        words = samples.LETTER_WORDS
        for _ in range(400):
            some = source.sample(words, source.randint(1, 12))
            program = samples.random_program(source, some, source.randint(0, 60))
            row = samples.random_row(source, words)
            self.assertEqual(run(program, row), samples.made(program, row))


class Steps(unittest.TestCase):
    def test_example(self):
        self.assertEqual(
            list(steps(PROGRAM, ("a", "x", "z"))),
            [("x", "a", "z"), ("y", "x", "a", "z"), ("y", "x", "a", "z"), ("y", "x", "a")],
        )

    def test_is_an_iterator(self):
        rows = steps(PROGRAM, ("a", "x", "z"))
        self.assertIs(iter(rows), rows)
        self.assertEqual(next(rows), ("x", "a", "z"))
        self.assertEqual(next(rows), ("y", "x", "a", "z"))
        self.assertEqual(len(list(rows)), 2)
        self.assertEqual(list(rows), [])

    def test_empty(self):
        self.assertEqual(list(steps([], ("a", "b"))), [])
        self.assertEqual(list(steps([], ())), [])
        self.assertEqual(list(steps([("drop", "a")], ())), [()])

    def test_a_row_for_each_operation(self):
        self.assertEqual(list(steps([("drop", "x")] * 60, ("a",))), [("a",)] * 60)

    def test_two_at_once(self):
        one, two = steps(PROGRAM, ("x",)), steps(PROGRAM, ())
        self.assertEqual([next(one), next(two), next(one), next(two)], [("x",), (), ("y", "x"), ("y",)])

    def test_like_the_reference(self):
        source = random.Random(5)
        for _ in range(100):
            program = samples.random_program(source, samples.TWELVE, source.randint(0, 60))
            row = samples.random_row(source, samples.LETTER_WORDS)
            expected = [samples.made(program[:size + 1], row) for size in range(len(program))]
            found = list(steps(program, row))
            self.assertEqual(found, expected)
            self.assertTrue(all(type(made) is tuple for made in found))


class Fate(unittest.TestCase):
    def test_example(self):
        self.assertEqual(fate(PROGRAM, "x"), ("front", "back"))
        self.assertEqual(fate(PROGRAM, "a"), ("middle", "out"))
        self.assertEqual(fate(PROGRAM, "y"), ("front", "front"))
        self.assertEqual(fate(PROGRAM, "z"), ("out", "out"))

    def test_one_operation(self):
        for verb in samples.VERBS:
            with self.subTest(verb):
                self.assertEqual(fate([(verb, "x")], "x"), FATES[verb])
                self.assertEqual(fate([(verb, "x")], "y"), ("middle", "out"))

    def test_empty(self):
        self.assertEqual(fate([], "x"), ("middle", "out"))

    def test_returns_a_tuple_of_two_strings(self):
        found = fate(PROGRAM, "x")
        self.assertIs(type(found), tuple)
        self.assertEqual([type(place) for place in found], [str, str])

    def test_last_operation_counts(self):
        self.assertEqual(fate([("front", "x"), ("sink", "x")], "x"), ("back", "back"))
        self.assertEqual(fate([("front", "x"), ("addback", "x")], "x"), ("front", "front"))
        self.assertEqual(fate([("lift", "x"), ("sink", "x")], "x"), ("back", "out"))
        self.assertEqual(fate([("addfront", "x"), ("drop", "x")], "x"), ("out", "out"))
        self.assertEqual(fate([("drop", "x"), ("addback", "x")], "x"), ("back", "back"))
        self.assertEqual(fate([("addfront", "x"), ("addback", "x")], "x"), ("middle", "front"))
        self.assertEqual(fate([("drop", "x"), ("lift", "x")], "x"), ("out", "out"))

    def test_moved_even_if_it_stays_where_it_is(self):
        self.assertEqual(fate([("lift", "x")], "x"), ("front", "out"))
        self.assertEqual(fate([("back", "x"), ("back", "y"), ("drop", "y")], "x"), ("back", "back"))

    def test_words_that_are_verbs_and_places(self):
        self.assertEqual(fate([("front", "out"), ("drop", "front")], "out"), ("front", "front"))
        self.assertEqual(fate([("front", "out"), ("drop", "front")], "front"), ("out", "out"))
        self.assertEqual(fate([("front", "out"), ("drop", "front")], "drop"), ("middle", "out"))

    def test_any_word(self):
        self.assertEqual(fate([("front", word) for word in samples.TWELVE], "abcdefgh"), ("middle", "out"))
        with self.assertRaises(InvalidWord):
            fate([("front", word) for word in samples.TWELVE], "abcdefghi")

    def test_like_the_rows_that_are_made(self):
        source = random.Random(6)
        for _ in range(300):
            program = samples.random_program(source, ("x", "y", "z"), source.randint(0, 9))
            found = fate(program, "x")
            for row, place in zip([("s", "x", "t"), ("s", "t")], found):
                made = samples.made(program, row)
                if "x" not in made:
                    self.assertEqual(place, "out")
                elif made.index("x") < made.index("s"):
                    self.assertEqual(place, "front")
                elif made.index("x") > made.index("t"):
                    self.assertEqual(place, "back")
                else:
                    self.assertEqual(place, "middle")


if __name__ == "__main__":
    unittest.main()

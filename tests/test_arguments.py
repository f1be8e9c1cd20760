"""Points 7 and 8: wrong arguments, arguments by name, what is not modified, and how long calls take."""

import copy
import itertools
import time
import unittest

from frontback import meanings, rows
from frontback.errors import InvalidMeaning, InvalidProgram, InvalidRow, InvalidWord, TooLarge
from tests import samples

PROGRAM = [("lift", "x"), ("front", "y"), ("addback", "x"), ("drop", "z")]
OTHER = [("sink", "x"), ("addfront", "w")]
MEANING = ((("y", "always"), ("x", "present")), (("x", "absent"),), ("z",))
OTHER_MEANING = ((("w", "absent"),), (("x", "present"),), ())

WRONG = {
    "program": (InvalidProgram, samples.WRONG_PROGRAMS + [MEANING, ("a", "x")]),
    "row": (InvalidRow, samples.WRONG_ROWS + [MEANING, PROGRAM]),
    "word": (InvalidWord, samples.WRONG_WORDS + [MEANING, PROGRAM]),
    "meaning": (InvalidMeaning, samples.WRONG_MEANINGS + [PROGRAM, ("a", "x")]),
}

# Each function with the names of its parameters, what they have to be, and values that are right.
CALLS = [
    (rows.run, [("program", "program", PROGRAM), ("row", "row", ("a", "x"))]),
    (rows.steps, [("program", "program", PROGRAM), ("row", "row", ("a", "x"))]),
    (rows.fate, [("program", "program", PROGRAM), ("word", "word", "x")]),
    (meanings.meaning, [("program", "program", PROGRAM)]),
    (meanings.apply, [("meaning", "meaning", MEANING), ("row", "row", ("a", "x"))]),
    (meanings.agree, [("program", "program", PROGRAM), ("other", "program", OTHER)]),
    (meanings.difference, [("program", "program", PROGRAM), ("other", "program", OTHER)]),
    (meanings.joined, [("meaning", "meaning", MEANING), ("other", "meaning", OTHER_MEANING)]),
    (meanings.settles, [("program", "program", PROGRAM)]),
    (meanings.forgets, [("program", "program", PROGRAM), ("other", "program", OTHER)]),
    (meanings.commute, [("program", "program", PROGRAM), ("other", "program", OTHER)]),
]

ASKED = [rows.is_row, rows.is_program, meanings.is_meaning]


def result(function, *values, **named):
    """What the call returns, an iterator as a list."""
    found = function(*values, **named)
    return list(found) if function is rows.steps else found


class WrongArguments(unittest.TestCase):
    def assert_raises(self, error, function, *values, **named):
        before = copy.deepcopy([values, named])
        with self.subTest([function.__name__, repr([values, named])[:200]]):
            with self.assertRaises(error) as caught:
                result(function, *values, **named)
            self.assertIs(type(caught.exception), error)
            self.assertEqual(repr([values, named]), repr(before))

    def test_right_arguments_raise_nothing(self):
        for function, parameters in CALLS:
            result(function, *[value for name, kind, value in parameters])

    def test_each_position(self):
        for function, parameters in CALLS:
            for at, (name, kind, right) in enumerate(parameters):
                error, values = WRONG[kind]
                for wrong in values:
                    arguments = [value for _, _, value in parameters]
                    arguments[at] = wrong
                    self.assert_raises(error, function, *arguments)

    def test_the_first_wrong_one_counts(self):
        for function, parameters in CALLS:
            if len(parameters) == 2:
                error, values = WRONG[parameters[0][1]]
                later = WRONG[parameters[1][1]][1]
                for wrong in values:
                    for second in (later[0], later[-1], later[len(later) // 2]):
                        self.assert_raises(error, function, wrong, second)
                for wrong in (values[0], values[-1], values[len(values) // 2]):
                    for second in later:
                        self.assert_raises(error, function, wrong, second)

    def test_the_first_wrong_one_counts_by_name_in_any_order(self):
        for function, parameters in CALLS:
            if len(parameters) == 2:
                (name, kind, right), (later, other_kind, other_right) = parameters
                for wrong, other in itertools.product(WRONG[kind][1][::40], WRONG[other_kind][1][::40]):
                    self.assert_raises(WRONG[kind][0], function, **{later: other, name: wrong})
                    self.assert_raises(WRONG[other_kind][0], function, **{later: other, name: right})

    def test_wrong_meaning_before_too_large(self):
        twelve = ((), (), samples.TWELVE)
        many = (tuple((word, "always") for word in samples.LETTER_WORDS[12:24]), (), ())
        self.assert_raises(TooLarge, meanings.joined, twelve, many)
        self.assert_raises(InvalidMeaning, meanings.joined, twelve, ((), (), samples.THIRTEEN))
        self.assert_raises(InvalidMeaning, meanings.joined, ((), (), samples.THIRTEEN), many)

    def test_any_value_may_be_asked_about(self):
        values = (samples.WRONG_WORDS + samples.WRONG_ROWS + samples.WRONG_PROGRAMS + samples.WRONG_OPERATIONS
                  + samples.WRONG_MEANINGS + samples.WRONG_ENTRIES + samples.GOOD_MEANINGS
                  + [PROGRAM, OTHER, (), [], ("a", "x")])
        for value in values:
            before = copy.deepcopy(value)
            for function in ASKED:
                with self.subTest([function.__name__, repr(value)[:80]]):
                    self.assertIn(type(function(value)), [bool])
                    self.assertEqual(function(value=value), function(value))
            self.assertEqual(repr(value), repr(before))

    def test_programs_meanings_and_rows_are_told_apart(self):
        kinds = [("a", "x"), PROGRAM, MEANING]
        for function, right in zip(ASKED, kinds):
            self.assertEqual([function(value) for value in kinds], [value is right for value in kinds])


class ByName(unittest.TestCase):
    def test_in_both_orders(self):
        for function, parameters in CALLS:
            expected = result(function, *[value for name, kind, value in parameters])
            for order in itertools.permutations(parameters):
                self.assertEqual(result(function, **{name: value for name, kind, value in order}), expected)

    def test_the_second_one_only(self):
        for function, parameters in CALLS:
            if len(parameters) == 2:
                (_, _, first), (name, _, second) = parameters
                self.assertEqual(result(function, first, **{name: second}), result(function, first, second))

    def test_asked(self):
        for function, value in zip(ASKED, [("a", "x"), PROGRAM, MEANING]):
            self.assertIs(function(value=value), True)
            self.assertIs(function(value=None), False)


class NotModified(unittest.TestCase):
    def test_right_arguments(self):
        for function, parameters in CALLS:
            arguments = [copy.deepcopy(value) for name, kind, value in parameters]
            result(function, *arguments)
            self.assertEqual(arguments, [value for name, kind, value in parameters])

    def test_returned_values_keep_nothing_of_a_list(self):
        program = [("front", "x"), ("lift", "y")]
        kept = [meanings.meaning(program), rows.run(program, ("a",)), rows.fate(program, "x")]
        expected = copy.deepcopy(kept)
        program[:] = [("drop", "x")] * 3
        self.assertEqual(kept, expected)
        self.assertEqual(meanings.meaning(program), ((), (), ("x",)))

    def test_a_list_of_steps_belongs_to_the_caller(self):
        first = list(rows.steps(PROGRAM, ("a",)))
        expected = list(first)
        first.clear()
        self.assertEqual(list(rows.steps(PROGRAM, ("a",))), expected)

    def test_one_list_at_both_positions(self):
        program = list(PROGRAM)
        self.assertIs(meanings.agree(program, program), True)
        self.assertIsNone(meanings.difference(program, program))
        self.assertIs(meanings.commute(program, program), True)
        self.assertEqual(program, PROGRAM)

    def test_equal_calls_return_equal_values(self):
        for function, parameters in CALLS:
            arguments = [value for name, kind, value in parameters]
            self.assertEqual(result(function, *arguments), result(function, *arguments))


class Time(unittest.TestCase):
    def assert_quick(self, function, *values):
        start = time.perf_counter()
        result(function, *values)
        self.assertLess(time.perf_counter() - start, 2, function.__name__)

    def test_largest_arguments(self):
        words = samples.LETTER_WORDS
        one = [(verb, word) for verb in ("lift", "addback", "addfront", "sink", "addback") for word in words[:12]]
        other = [(verb, word) for verb in ("sink", "addfront", "lift", "addback", "lift") for word in words[12:24]]
        first, second = meanings.meaning(one), meanings.meaning([(verb, word) for verb, word in one[::-1]])
        for function in (meanings.meaning, meanings.settles):
            self.assert_quick(function, one)
        for function in (meanings.agree, meanings.difference, meanings.forgets, meanings.commute):
            self.assert_quick(function, one, other)
            self.assert_quick(function, one, list(one))
        self.assert_quick(meanings.joined, first, second)
        for function in (rows.run, rows.steps):
            self.assert_quick(function, one, words[:20])
        self.assert_quick(meanings.apply, first, words[:20])
        self.assert_quick(rows.fate, one, "a")

    def test_values_beyond_the_bounds(self):
        entries = tuple((word, "always") for word in samples.LETTER_WORDS[:12])
        pairs = [a + b for a in samples.LETTERS for b in samples.LETTERS][:200]
        values = [
            ["a" * 2000] * 200, ("a" * 2000,) * 200, tuple(pairs), [("lift", word) for word in pairs],
            (entries * 16, entries * 16, tuple(pairs)), (tuple((word, "present") for word in pairs), (), ()),
            (tuple((word, "present") for word in pairs), tuple((word, "absent") for word in pairs), tuple(pairs)),
            [[[["x"] * 200] * 200] * 200] * 200, 10 ** 999,
        ]
        for value in values:
            for function in ASKED:
                self.assert_quick(function, value)
                self.assertIs(function(value), False)


if __name__ == "__main__":
    unittest.main()

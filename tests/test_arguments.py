"""Points 7 and 8: wrong arguments, arguments by name, what is not modified, and how long calls take."""

import copy
import itertools
import time
import unittest

from frontback import backwards, meanings, probes, routes, rows, shortest, texts
from frontback.editor import Editor, LockedEditor
from frontback.errors import (
    InvalidFences, InvalidMeaning, InvalidNames, InvalidNumber, InvalidOperation, InvalidProgram, InvalidResults,
    InvalidRow, InvalidRows, InvalidText, InvalidWord, NoProgram, NoSource, TooLarge,
)
from frontback.programs import Program, ShortProgram
from tests import samples

PROGRAM = [("lift", "x"), ("front", "y"), ("addback", "x"), ("drop", "z")]
OTHER = [("sink", "x"), ("addfront", "w")]
MEANING = ((("y", "always"), ("x", "present")), (("x", "absent"),), ("z",))
OTHER_MEANING = ((("w", "absent"),), (("x", "present"),), ())
NAMES = samples.NAMES
FENCES = ("left", "right")
RESULTS = [samples.made([("lift", "x"), ("addback", "y")], row) for row in probes.probes(NAMES)]
OBJECTS = [Program(*PROGRAM), ShortProgram(*PROGRAM), Editor(("a", "x")), LockedEditor(("a", "x"), "x")]


def done(operation):
    """What a new editor does."""
    return Editor(("a", "x")).do(operation=operation)


def executed(program):
    """What a new editor with a locked word executes."""
    return LockedEditor(("a", "x"), "q").run(program=program)


def edited(row):
    """The row of a new editor."""
    return Editor(row=row).row


def locked(row, *words):
    """The row and the locked words of a new editor."""
    editor = LockedEditor(row, *words)
    return [editor.row, editor.locked]


WRONG = {
    "program": (InvalidProgram, samples.WRONG_PROGRAMS + [MEANING, ("a", "x")]),
    "row": (InvalidRow, samples.WRONG_ROWS + [MEANING, PROGRAM]),
    "word": (InvalidWord, samples.WRONG_WORDS + [MEANING, PROGRAM]),
    "meaning": (InvalidMeaning, samples.WRONG_MEANINGS + [PROGRAM, ("a", "x")]),
    "names": (InvalidNames, samples.WRONG_NAMES + [MEANING, PROGRAM, RESULTS]),
    "rows": (InvalidRows, samples.WRONG_LISTS_OF_ROWS + [MEANING, NAMES]),
    "number": (InvalidNumber, samples.WRONG_NUMBERS + [MEANING, PROGRAM]),
    "fences": (InvalidFences, samples.WRONG_FENCES + [MEANING, PROGRAM]),
    "results": (InvalidResults, samples.WRONG_RESULTS + [MEANING, NAMES]),
    "operation": (InvalidOperation, samples.WRONG_OPERATIONS + [MEANING, PROGRAM]),
    "text": (InvalidText, samples.WRONG_TEXTS + [MEANING, PROGRAM]),
    # The second word is wrong if it is the first one, too.
    "other word": (InvalidWord, samples.WRONG_WORDS + [MEANING, PROGRAM, "x"]),
}

# Objects of the package are none of these things.
for _, values in WRONG.values():
    values.extend(OBJECTS)

# Each function with the names of its parameters, what they have to be, and values that are right.
CALLS = [
    (rows.run, [("program", "program", PROGRAM), ("row", "row", ("a", "x"))]),
    (rows.steps, [("program", "program", PROGRAM), ("row", "row", ("a", "x"))]),
    (rows.fate, [("program", "program", PROGRAM), ("word", "word", "x")]),
    (meanings.meaning, [("program", "program", PROGRAM)]),
    (meanings.apply, [("meaning", "meaning", MEANING), ("row", "row", ("a", "x"))]),
    (meanings.agree, [("program", "program", PROGRAM), ("other", "program", OTHER)]),
    (meanings.difference, [("program", "program", PROGRAM), ("other", "program", OTHER)]),
    (meanings.joined, [("meaning", "meaning", MEANING), ("other", "meaning", OTHER_MEANING)]),
    (meanings.settles, [("program", "program", PROGRAM)]),
    (meanings.forgets, [("program", "program", PROGRAM), ("other", "program", OTHER)]),
    (meanings.commute, [("program", "program", PROGRAM), ("other", "program", OTHER)]),
    (shortest.shortest, [("meaning", "meaning", MEANING)]),
    (shortest.orders, [("meaning", "meaning", MEANING)]),
    (shortest.all_shortest, [("meaning", "meaning", MEANING)]),
    (shortest.idle, [("program", "program", PROGRAM)]),
    (routes.distance, [("row", "row", ("a", "x")), ("other", "row", ("y", "x", "a"))]),
    (routes.route, [("row", "row", ("a", "x")), ("other", "row", ("y", "x", "a"))]),
    (routes.routes, [("row", "row", ("a", "x")), ("other", "row", ("y", "x", "a"))]),
    (probes.tells, [("names", "names", NAMES), ("rows", "rows", [("s", "x"), (), ("x",)])]),
    (probes.fewest, [("number", "number", 5)]),
    (probes.probes, [("names", "names", NAMES), ("fences", "fences", FENCES)]),
    (probes.learned, [("names", "names", NAMES), ("results", "results", RESULTS), ("fences", "fences", FENCES)]),
    (backwards.sources, [("program", "program", PROGRAM), ("row", "row", ("y", "x")), ("names", "names", NAMES)]),
    (backwards.source, [("program", "program", PROGRAM), ("row", "row", ("y", "x")), ("names", "names", NAMES)]),
    (backwards.sure, [("program", "program", PROGRAM)]),
    (backwards.always_before, [("program", "program", PROGRAM), ("word", "word", "x"), ("other", "other word", "a")]),
    (texts.write, [("program", "program", PROGRAM)]),
    (texts.read, [("text", "text", "front x; drop y")]),
    (Program.of, [("meaning", "meaning", MEANING)]),
    (ShortProgram.of, [("meaning", "meaning", MEANING)]),
    (OBJECTS[0].__call__, [("row", "row", ("a", "x"))]),
    (OBJECTS[1].__call__, [("row", "row", ("a", "x"))]),
    (done, [("operation", "operation", ("front", "y"))]),
    (executed, [("program", "program", PROGRAM)]),
    (edited, [("row", "row", ("a", "x"))]),
]

# Starred arguments are passed by position.
STARRED_CALLS = [
    (Program, [("operation", ("front", "x")), ("operation", ("drop", "y")), ("operation", ("front", "x"))]),
    (ShortProgram, [("operation", ("front", "x")), ("operation", ("drop", "y")), ("operation", ("front", "x"))]),
    (locked, [("row", ("a", "x")), ("word", "x"), ("word", "b"), ("word", "x")]),
]

ITERATORS = [rows.steps, shortest.all_shortest]
ASKED = [rows.is_row, rows.is_program, meanings.is_meaning]


def result(function, *values, **named):
    """What the call returns, an iterator as a list."""
    found = function(*values, **named)
    return list(found) if function in ITERATORS else found


def some(values):
    """The first, the last and a few other ones of the values."""
    return values[::len(values) // 5] + values[-1:]


class WrongArguments(unittest.TestCase):
    def assert_raises(self, error, function, *values, **named):
        before = repr([values, named])
        with self.subTest([function.__name__, before[:200]]):
            with self.assertRaises(error) as caught:
                result(function, *values, **named)
            self.assertIs(type(caught.exception), error)
            self.assertEqual(repr([values, named]), before)

    def test_right_arguments_raise_nothing(self):
        for function, parameters in CALLS:
            result(function, *[value for name, kind, value in parameters])

    def test_each_position(self):
        for function, parameters in CALLS:
            for at, (name, kind, right) in enumerate(parameters):
                error, values = WRONG[kind]
                for wrong in values:
                    arguments = [value for _, _, value in parameters]
                    arguments[at] = wrong
                    self.assert_raises(error, function, *arguments)

    def test_the_first_wrong_one_counts(self):
        for function, parameters in CALLS:
            arguments = [value for _, _, value in parameters]
            for one, later in itertools.combinations(range(len(parameters)), 2):
                error, values = WRONG[parameters[one][1]]
                others = WRONG[parameters[later][1]][1]
                pairs = list(itertools.product(values, some(others))) + list(itertools.product(some(values), others))
                for wrong, other in pairs:
                    changed = list(arguments)
                    changed[one], changed[later] = wrong, other
                    self.assert_raises(error, function, *changed)

    def test_all_wrong(self):
        for function, parameters in CALLS:
            error, values = WRONG[parameters[0][1]]
            for arguments in itertools.product(*[some(WRONG[kind][1]) for name, kind, value in parameters]):
                self.assert_raises(error, function, *arguments)

    def test_the_first_wrong_one_counts_by_name_in_any_order(self):
        for function, parameters in CALLS:
            right = {name: value for name, kind, value in parameters}
            for (name, kind, _), (later, other_kind, _) in itertools.combinations(parameters, 2):
                for wrong, other in itertools.product(WRONG[kind][1][::40], WRONG[other_kind][1][::40]):
                    self.assert_raises(WRONG[kind][0], function, **{**right, later: other, name: wrong})
                    self.assert_raises(WRONG[other_kind][0], function, **{**right, later: other})

    def test_starred_arguments(self):
        for function, parameters in STARRED_CALLS:
            right = [value for _, value in parameters]
            function(*right)
            for one, (kind, _) in enumerate(parameters):
                error, values = WRONG[kind]
                for wrong in values:
                    self.assert_raises(error, function, *right[:one], wrong, *right[one + 1:])
                for later in range(one + 1, len(parameters)):
                    for wrong, other in itertools.product(some(values), WRONG[parameters[later][0]][1]):
                        changed = list(right)
                        changed[one], changed[later] = wrong, other
                        self.assert_raises(error, function, *changed)

    def test_no_source_comes_last(self):
        self.assert_raises(NoSource, backwards.source, PROGRAM, ("x", "y"), NAMES)
        for wrong in samples.WRONG_NAMES:
            self.assert_raises(InvalidNames, backwards.source, PROGRAM, ("x", "y"), wrong)

    def test_no_program_comes_last(self):
        nothing = [()] * 4
        self.assert_raises(NoProgram, probes.learned, NAMES, nothing)
        self.assert_raises(NoProgram, probes.learned, NAMES, nothing, FENCES)
        for wrong in samples.WRONG_FENCES:
            self.assert_raises(InvalidFences, probes.learned, NAMES, nothing, wrong)
        self.assert_raises(InvalidFences, probes.learned, ("x", "left"), nothing)
        self.assert_raises(InvalidFences, probes.learned, ("right", "y"), nothing)
        self.assert_raises(InvalidResults, probes.learned, ("x", "left"), [()] * 3)

    def test_wrong_meaning_before_too_large(self):
        twelve = ((), (), samples.TWELVE)
        many = (tuple((word, "always") for word in samples.LETTER_WORDS[12:24]), (), ())
        self.assert_raises(TooLarge, meanings.joined, twelve, many)
        self.assert_raises(InvalidMeaning, meanings.joined, twelve, ((), (), samples.THIRTEEN))
        self.assert_raises(InvalidMeaning, meanings.joined, ((), (), samples.THIRTEEN), many)

    def test_any_value_may_be_asked_about(self):
        values = (samples.WRONG_WORDS + samples.WRONG_ROWS + samples.WRONG_PROGRAMS + samples.WRONG_OPERATIONS
                  + samples.WRONG_MEANINGS + samples.WRONG_ENTRIES + samples.GOOD_MEANINGS + samples.WRONG_TEXTS
                  + [PROGRAM, OTHER, (), [], ("a", "x")])
        for value in values:
            before = copy.deepcopy(value)
            for function in ASKED:
                with self.subTest([function.__name__, repr(value)[:80]]):
                    self.assertIn(type(function(value)), [bool])
                    self.assertEqual(function(value=value), function(value))
            self.assertEqual(repr(value), repr(before))

    def test_programs_meanings_and_rows_are_told_apart(self):
        kinds = [("a", "x"), PROGRAM, MEANING]
        for function, right in zip(ASKED, kinds):
            self.assertEqual([function(value) for value in kinds], [value is right for value in kinds])


class ByName(unittest.TestCase):
    def test_in_both_orders(self):
        for function, parameters in CALLS:
            expected = result(function, *[value for name, kind, value in parameters])
            for order in itertools.permutations(parameters):
                self.assertEqual(result(function, **{name: value for name, kind, value in order}), expected)

    def test_only_the_later_ones(self):
        for function, parameters in CALLS:
            values = [value for name, kind, value in parameters]
            for first in range(1, len(parameters)):
                later = {name: value for name, kind, value in parameters[first:]}
                self.assertEqual(result(function, *values[:first], **later), result(function, *values))

    def test_asked(self):
        for function, value in zip(ASKED, [("a", "x"), PROGRAM, MEANING]):
            self.assertIs(function(value=value), True)
            self.assertIs(function(value=None), False)


class NotModified(unittest.TestCase):
    def test_right_arguments(self):
        for function, parameters in CALLS:
            arguments = [copy.deepcopy(value) for name, kind, value in parameters]
            result(function, *arguments)
            self.assertEqual(arguments, [value for name, kind, value in parameters])

    def test_returned_values_keep_nothing_of_a_list(self):
        program = [("front", "x"), ("lift", "y")]
        kept = [meanings.meaning(program), rows.run(program, ("a",)), rows.fate(program, "x")]
        expected = copy.deepcopy(kept)
        program[:] = [("drop", "x")] * 3
        self.assertEqual(kept, expected)
        self.assertEqual(meanings.meaning(program), ((), (), ("x",)))

    def test_a_list_of_steps_belongs_to_the_caller(self):
        first = list(rows.steps(PROGRAM, ("a",)))
        expected = list(first)
        first.clear()
        self.assertEqual(list(rows.steps(PROGRAM, ("a",))), expected)

    def test_a_list_of_programs_belongs_to_the_caller(self):
        expected = list(shortest.all_shortest(MEANING))
        found = []
        for program in shortest.all_shortest(MEANING):
            found.append(list(program))
            program.clear()
        self.assertEqual(found, expected)
        self.assertEqual([program.clear() for program in shortest.all_shortest(((), (), ()))], [None])
        self.assertEqual(list(shortest.all_shortest(((), (), ()))), [[]])

    def test_returned_lists_are_new(self):
        for function, parameters in CALLS:
            arguments = [value for name, kind, value in parameters]
            found = function(*arguments)
            if isinstance(found, list):
                expected = list(found)
                found.append("more")
                found.reverse()
                self.assertEqual(function(*arguments), expected, function.__name__)
                self.assertFalse(any(found is value for value in arguments))

    def test_one_list_at_both_positions(self):
        program = list(PROGRAM)
        self.assertIs(meanings.agree(program, program), True)
        self.assertIsNone(meanings.difference(program, program))
        self.assertIs(meanings.commute(program, program), True)
        self.assertEqual(program, PROGRAM)

    def test_equal_calls_return_equal_values(self):
        for function, parameters in CALLS:
            arguments = [value for name, kind, value in parameters]
            self.assertEqual(result(function, *arguments), result(function, *arguments))


class Time(unittest.TestCase):
    def assert_quick(self, function, *values):
        start = time.perf_counter()
        result(function, *values)
        self.assertLess(time.perf_counter() - start, 2, function.__name__)

    def test_largest_arguments(self):
        words = samples.LETTER_WORDS
        one = [(verb, word) for verb in ("lift", "addback", "addfront", "sink", "addback") for word in words[:12]]
        other = [(verb, word) for verb in ("sink", "addfront", "lift", "addback", "lift") for word in words[12:24]]
        first, second = meanings.meaning(one), meanings.meaning([(verb, word) for verb, word in one[::-1]])
        for function in (meanings.meaning, meanings.settles):
            self.assert_quick(function, one)
        for function in (meanings.agree, meanings.difference, meanings.forgets, meanings.commute):
            self.assert_quick(function, one, other)
            self.assert_quick(function, one, list(one))
        self.assert_quick(meanings.joined, first, second)
        for function in (rows.run, rows.steps):
            self.assert_quick(function, one, words[:20])
        self.assert_quick(meanings.apply, first, words[:20])
        self.assert_quick(rows.fate, one, "a")
        self.assert_quick(shortest.idle, one)
        self.assert_quick(shortest.idle, [("front", "x"), ("back", "y")] * 30)

    def test_shortest_programs_of_the_largest_meanings(self):
        words = samples.TWELVE
        programs = [
            [(verb, word) for verb in verbs for word in words]
            for verbs in [("lift", "addback"), ("sink", "addfront"), ("drop",), ("front",), ("lift", "addfront")]
        ]
        programs.append([("front", word) for word in words[:6]] + [("drop", word) for word in words[6:]])
        programs.append([("lift", word) for word in words[:6]] + [("sink", word) for word in words[6:]]
                        + [("addback", word) for word in words[:6]] + [("addfront", word) for word in words[6:]])
        for program in programs:
            triple = meanings.meaning(program)
            self.assert_quick(shortest.shortest, triple)
            self.assert_quick(shortest.orders, triple)
            start = time.perf_counter()
            self.assertGreater(len(list(itertools.islice(shortest.all_shortest(triple), 1000))), 0)
            self.assertLess(time.perf_counter() - start, 1)

    def test_sources_among_eight_names(self):
        words = samples.TWELVE
        programs = [[(verb, word) for verb in ("lift", "addback", "addfront", "sink", "addback") for word in words],
                    [("drop", word) for word in words] * 5, [], [("lift", word) for word in words]]
        for program in programs:
            for row in [(), words, words[::-1], samples.LETTER_WORDS[:20], words[:8]]:
                for names in (words[:8], words[4:], samples.LETTER_WORDS[18:]):
                    self.assert_quick(backwards.sources, program, row, names)
                    if backwards.sources(program, row, names):
                        self.assert_quick(backwards.source, program, row, names)
            self.assert_quick(backwards.sure, program)
            self.assert_quick(backwards.always_before, program, "a", "b")
            self.assert_quick(texts.write, program)

    def test_largest_rows(self):
        words = samples.LETTER_WORDS[:20]
        others = tuple(word * 2 for word in words)
        mixed = tuple(itertools.chain(*zip(words[:10], others[:10])))
        for row, other in itertools.permutations([(), words, words[::-1], others, mixed, words[10:] + words[:10]], 2):
            for function in (routes.distance, routes.route, routes.routes):
                self.assert_quick(function, row, other)
                self.assert_quick(function, row, row)

    def test_most_names_and_rows(self):
        names = samples.LETTER_WORDS[:8]
        program = [(verb, word) for verb in ("lift", "addback", "addfront", "sink") for word in names]
        results = [samples.made(program, row) for row in probes.probes(names)]
        self.assert_quick(probes.learned, names, results)
        self.assert_quick(probes.tells, names, [samples.LETTER_WORDS[:20]] * 200)
        self.assert_quick(probes.tells, names, probes.probes(names) * 33)
        self.assert_quick(probes.fewest, 8)

    def test_values_beyond_the_bounds(self):
        entries = tuple((word, "always") for word in samples.LETTER_WORDS[:12])
        pairs = [a + b for a in samples.LETTERS for b in samples.LETTERS][:200]
        values = [
            ["a" * 2000] * 200, ("a" * 2000,) * 200, tuple(pairs), [("lift", word) for word in pairs],
            (entries * 16, entries * 16, tuple(pairs)), (tuple((word, "present") for word in pairs), (), ()),
            (tuple((word, "present") for word in pairs), tuple((word, "absent") for word in pairs), tuple(pairs)),
            [[[["x"] * 200] * 200] * 200] * 200, 10 ** 999,
        ]
        for value in values:
            for function in ASKED:
                self.assert_quick(function, value)
                self.assertIs(function(value), False)


if __name__ == "__main__":
    unittest.main()

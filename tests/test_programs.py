"""Points 15 and 16: programs as objects."""

import itertools
import random
import time
import unittest

from frontback.editor import Editor, LockedEditor
from frontback.errors import InvalidMeaning, InvalidNumber, InvalidOperation, InvalidProgram, InvalidRow, TooLarge
from frontback.meanings import agree, meaning
from frontback.programs import Program, ShortProgram
from frontback.rows import is_program, run
from frontback.shortest import shortest
from tests import samples

CLASSES = (Program, ShortProgram)
SHORT_LISTS = samples.programs_of(("x", "y"), 2)
ONE_WORD_LISTS = samples.programs_of(("x",), 3)

# Values of every kind that are no objects that stand for programs.
OTHERS = (
    samples.WRONG_PROGRAMS
    + [[], [("front", "x")], ("front", "x"), (("front", "x"),), "front", "x", "front x", ((), (), ()), 2, 5]
    + [Editor(("x",)), LockedEditor((), "x"), Program, ShortProgram]
)

# Values that are not the word of an operation of a program with the words x and y.
NO_WORDS = samples.WRONG_WORDS + ["z", "front", "back", "drop", "xy", "yx", ("x",), ["x"], {"x": "y"}, ("front", "x")]


class Child(Program):
    """A class below Program that is made elsewhere."""


class GrandChild(ShortProgram):
    """A class below ShortProgram that is made elsewhere."""


def behaviour(operations):
    """What a list of operations with the words x and y makes of many rows."""
    return tuple(samples.made(operations, row) for row in samples.ROWS)


class Examples(unittest.TestCase):
    def setUp(self):
        self.one = Program(("front", "y"), ("addfront", "x"))
        self.two = ShortProgram(("lift", "x"), ("front", "x"), ("drop", "y"), ("addback", "x"))

    def test_first_line(self):
        one, two = self.one, self.two
        found = [one(("a",)), (one + one)(("a",)), one * 3 == one * 2, one == one * 2, len(two), "y" in two]
        self.assertEqual(found, [("x", "y", "a"), ("y", "x", "a"), True, False, 2, True])

    def test_second_line(self):
        one, two = self.one, self.two
        found = [(one + two)(("a",)), len(one + two), len(two + one), two == Program(("front", "x"), ("drop", "y"))]
        self.assertEqual(found, [("x", "a"), 4, 2, True])


class Constructor(unittest.TestCase):
    def assert_raises(self, error, *operations):
        for made_class in CLASSES + (Child, GrandChild):
            with self.assertRaises(error) as caught:
                made_class(*operations)
            self.assertIs(type(caught.exception), error)

    def test_each_wrong_operation(self):
        for wrong in samples.WRONG_OPERATIONS:
            with self.subTest(repr(wrong)[:80]):
                self.assert_raises(InvalidOperation, wrong)
                self.assert_raises(InvalidOperation, ("front", "x"), wrong)
                self.assert_raises(InvalidOperation, wrong, ("front", "x"))
                self.assert_raises(InvalidOperation, wrong, wrong)

    def test_programs_are_no_operations(self):
        for wrong in ([("front", "x")], [], (("front", "x"),), Program(("front", "x"))):
            self.assert_raises(InvalidOperation, wrong)

    def test_numbers_of_operations(self):
        for made_class in CLASSES:
            for size in (0, 1, 59, 60):
                self.assertEqual(made_class(*[("front", "x")] * size)(("a",)), ("x", "a") if size else ("a",))
        for size in (61, 62, 200):
            self.assert_raises(TooLarge, *[("front", "x")] * size)
            self.assert_raises(TooLarge, *[("lift", "x"), ("drop", "y")] * size)

    def test_numbers_of_words(self):
        for verb in samples.VERBS:
            for made_class in CLASSES:
                self.assertEqual(len(made_class(*[(verb, word) for word in samples.TWELVE])), 12)
                self.assertIn("l", made_class(*[(verb, word) for word in samples.TWELVE * 5]))
            self.assert_raises(TooLarge, *[(verb, word) for word in samples.THIRTEEN])
            self.assert_raises(TooLarge, *[("drop", "a")] * 47, *[(verb, word) for word in samples.THIRTEEN])
        # Verbs are no words of a program.
        self.assertEqual(len(Program(*[(verb, word) for verb in samples.VERBS[:5] for word in samples.TWELVE])), 60)

    def test_wrong_operations_come_before_too_many(self):
        many = [("front", "x")] * 61
        words = [("front", word) for word in samples.LETTERS]
        for wrong in samples.WRONG_OPERATIONS[::7]:
            for operations in (many, words):
                self.assert_raises(InvalidOperation, *operations, wrong)
                self.assert_raises(InvalidOperation, wrong, *operations)
                self.assert_raises(InvalidOperation, *operations, wrong, *operations)

    def test_arguments_are_not_kept_as_a_list(self):
        operations = [("front", "x"), ("drop", "y")]
        for made_class in CLASSES:
            program = made_class(*operations)
            operations.append(("drop", "x"))
            self.assertEqual(len(program), 2)
            operations.pop()
            self.assertEqual(operations, [("front", "x"), ("drop", "y")])

    def test_long_calls_end_soon(self):
        start = time.perf_counter()
        operations = [(verb, word) for verb in ("lift", "addback", "addfront", "sink", "addback")
                      for word in samples.TWELVE]
        one, two = Program(*operations), ShortProgram(*operations)
        self.assertEqual([one == two, two == one, one * 1 == two * 1, one.meaning == two.meaning], [True] * 4)
        for made_class in CLASSES:
            with self.assertRaises(InvalidOperation):
                made_class(*operations * 3, ("front", "a" * 2000))
            made_class.of(one.meaning)
        self.assertEqual(len(one(samples.LETTER_WORDS[:20])), 20)
        self.assertLess(time.perf_counter() - start, 2)


class Class(unittest.TestCase):
    def test_words(self):
        self.assertEqual([Program.WORDS, ShortProgram.WORDS, Program().WORDS, ShortProgram().WORDS], [12] * 4)
        self.assertIs(type(Program.WORDS), int)

    def test_bases(self):
        self.assertEqual(Program.__bases__, (object,))
        self.assertEqual(ShortProgram.__bases__, (Program,))

    def test_objects_are_no_programs(self):
        for made_class in CLASSES:
            self.assertIs(is_program(made_class()), False)
            with self.assertRaises(InvalidProgram):
                run(made_class(("front", "x")), ())


class Of(unittest.TestCase):
    def test_classes(self):
        for made_class in (Program, ShortProgram, Child, GrandChild):
            for triple in samples.GOOD_MEANINGS:
                found = made_class.of(triple)
                self.assertIs(type(found), made_class)
                self.assertEqual(found.meaning, triple)
                self.assertEqual(len(found), sum(len(part) for part in triple))
                self.assertEqual(meaning(found.operations), triple)
                self.assertEqual(type(made_class().of(triple)), made_class)

    def test_by_name(self):
        triple = ((("x", "always"),), (), ())
        for made_class in CLASSES:
            self.assertEqual(made_class.of(meaning=triple).operations, [("front", "x")])

    def test_wrong_meanings(self):
        for wrong in samples.WRONG_MEANINGS + [[("front", "x")], Program(("front", "x"))]:
            for made_class in CLASSES:
                with self.subTest(repr(wrong)[:80]), self.assertRaises(InvalidMeaning):
                    made_class.of(wrong)


class Call(unittest.TestCase):
    def test_short_lists(self):
        for operations in SHORT_LISTS + ONE_WORD_LISTS:
            for made_class in CLASSES:
                program = made_class(*operations)
                for row in samples.ROWS:
                    made = samples.made(operations, row)
                    self.assertEqual(program(row), made)
                self.assertEqual(program(("x", "q")), run(operations, ("x", "q")))

    def test_returns_a_tuple(self):
        for made_class in CLASSES:
            self.assertIs(type(made_class()(())), tuple)
            self.assertIs(type(made_class(("front", "x"))(("a",))), tuple)

    def test_more_than_twenty_words(self):
        row = samples.LETTER_WORDS[:20]
        operations = [("back", word * 2) for word in samples.TWELVE]
        for made_class in CLASSES:
            self.assertEqual(made_class(*operations)(row), row + tuple(word * 2 for word in samples.TWELVE))

    def test_by_name(self):
        for made_class in CLASSES:
            self.assertEqual(made_class(("front", "x"))(row=("a", "x")), ("x", "a"))

    def test_wrong_rows(self):
        for wrong in samples.WRONG_ROWS:
            for made_class in CLASSES:
                program = made_class(("front", "x"))
                with self.subTest(repr(wrong)[:80]), self.assertRaises(InvalidRow):
                    program(wrong)
                self.assertEqual(program.operations, [("front", "x")])

    def test_called_often(self):
        for made_class in CLASSES:
            program = made_class(("front", "x"), ("addback", "y"))
            self.assertEqual([program(("a",)), program(("a",)), program(())], [("x", "a", "y")] * 2 + [("x", "y")])


class Properties(unittest.TestCase):
    def test_operations(self):
        for operations in SHORT_LISTS + [[("front", "x")] * 60, [("lift", word) for word in samples.TWELVE]]:
            program = Program(*operations)
            self.assertEqual(program.operations, operations)
            self.assertIs(type(program.operations), list)
            self.assertIs(is_program(program.operations), True)

    def test_operations_are_a_new_list(self):
        for made_class in CLASSES:
            for program in (made_class(("front", "x"), ("drop", "y")), made_class.of(((("x", "always"),), (), ("y",)))):
                found = program.operations
                expected = list(found)
                found.append(("drop", "x"))
                found[0] = None
                self.assertEqual(program.operations, expected)
                self.assertIsNot(program.operations, program.operations)
                self.assertEqual([len(program), program(())], [2, ("x",)])

    def test_meaning(self):
        for operations in SHORT_LISTS + ONE_WORD_LISTS:
            for made_class in CLASSES:
                self.assertEqual(made_class(*operations).meaning, meaning(operations))
        operations = [("lift", "x"), ("front", "y"), ("addback", "x"), ("drop", "z")]
        triple = ((("y", "always"), ("x", "present")), (("x", "absent"),), ("z",))
        self.assertEqual([made_class(*operations).meaning for made_class in CLASSES], [triple, triple])


class Sum(unittest.TestCase):
    def test_short_lists(self):
        for one, other in itertools.product(SHORT_LISTS[::3], SHORT_LISTS[::4]):
            found = Program(*one) + Program(*other)
            self.assertEqual(found.operations, one + other)
            self.assertEqual(behaviour(found.operations), behaviour(one + other))

    def test_all_classes(self):
        for one, other in itertools.product(SHORT_LISTS[::5], SHORT_LISTS[::9]):
            for left, right in itertools.product(CLASSES, CLASSES):
                first, second = left(*one), right(*other)
                kept = [first.operations, second.operations]
                found = first + second
                self.assertIs(type(found), left)
                self.assertEqual(found.meaning, meaning(one + other))
                self.assertEqual(found(("s", "y", "x")), samples.made(one + other, ("s", "y", "x")))
                if left is Program:
                    self.assertEqual(found.operations, kept[0] + kept[1])
                else:
                    self.assertEqual(len(found), len(shortest(meaning(one + other))))
                self.assertEqual([first.operations, second.operations], kept)

    def test_with_itself(self):
        program = Program(("front", "y"), ("addfront", "x"))
        self.assertEqual((program + program).operations, program.operations * 2)
        self.assertEqual(len(program), 2)

    def test_classes_made_elsewhere_may_be_added(self):
        for right in (Child, GrandChild):
            found = Program(("front", "x")) + right(("drop", "y"))
            self.assertEqual(found.operations, [("front", "x"), ("drop", "y")])

    def test_sixty_operations(self):
        one, other = [("front", "x")] * 30, [("drop", "y")] * 30
        self.assertEqual(len(Program(*one) + Program(*other)), 60)
        for left, right in [(one, other + [("drop", "y")]), (other * 2, [("drop", "y")]), ([("drop", "y")], one * 2)]:
            with self.assertRaises(TooLarge):
                Program(*left) + Program(*right)
        self.assertEqual(len(Program(*one * 2) + Program()), 60)
        self.assertEqual(len(Program() + Program(*one * 2)), 60)

    def test_too_large_although_a_shorter_program_agrees(self):
        long = [("front", "x")] * 60
        with self.assertRaises(TooLarge):
            Program(*long) + Program(("front", "x"))
        # What counts are the operations that are kept, not those of which the programs were made.
        self.assertEqual((ShortProgram(*long) + ShortProgram(*long)).operations, [("front", "x")])
        self.assertEqual(len(Program(*long[1:]) + ShortProgram(*long)), 60)
        for left, right in [(Program, ShortProgram), (ShortProgram, Program)]:
            with self.assertRaises(TooLarge):
                left(*long) + right(*long)

    def test_twelve_words(self):
        words = samples.LETTER_WORDS
        for left, right in itertools.product(CLASSES, CLASSES):
            first = left(*[("front", word) for word in words[:7]])
            self.assertEqual(len(first + right(*[("drop", word) for word in words[7:12]])), 12)
            self.assertEqual((first + right(*[("drop", word) for word in words[5:12]])).meaning[2], words[5:12])
            with self.assertRaises(TooLarge):
                first + right(*[("drop", word) for word in words[7:13]])
            with self.assertRaises(TooLarge):
                first + right(*[("drop", word) for word in words[6:13]])

    def test_other_values(self):
        for made_class in CLASSES:
            program = made_class(("front", "x"), ("drop", "y"))
            for wrong in OTHERS:
                with self.subTest(repr(wrong)[:80]), self.assertRaises(InvalidProgram):
                    program + wrong
            self.assertEqual(program.operations, made_class(("front", "x"), ("drop", "y")).operations)
            # Also where the sum would be too large.
            with self.assertRaises(InvalidProgram):
                Program(*[("front", "x")] * 60) + [("front", "x")]


class Product(unittest.TestCase):
    def test_short_lists(self):
        for operations in SHORT_LISTS:
            for number in range(6):
                found = Program(*operations) * number
                self.assertIs(type(found), Program)
                self.assertEqual(found.operations, operations * number)
                short = ShortProgram(*operations) * number
                self.assertIs(type(short), ShortProgram)
                self.assertEqual(short.operations, ShortProgram(*operations * number).operations)

    def test_runs_so_many_times(self):
        operations = [("front", "y"), ("addfront", "x"), ("sink", "z")]
        for made_class, row in itertools.product(CLASSES, [(), ("x", "z"), ("a", "y", "x"), ("z", "y")]):
            program = made_class(*operations)
            for number in range(6):
                self.assertEqual((program * number)(row), samples.made(operations * number, row))
            self.assertEqual(program.operations, made_class(*operations).operations)
            self.assertIs(program * 3 == program * 2, True)

    def test_zero_times(self):
        for made_class in CLASSES:
            self.assertEqual((made_class(("front", "x")) * 0).operations, [])
            self.assertEqual((made_class() * 0).operations, [])

    def test_sixty_operations(self):
        for size, number in [(12, 5), (15, 4), (20, 3), (30, 2), (60, 1), (60, 0)]:
            self.assertEqual(len(Program(*[("front", "x")] * size) * number), size * number)
        for size, number in [(13, 5), (16, 4), (21, 3), (31, 2), (60, 5)]:
            with self.assertRaises(TooLarge):
                Program(*[("front", "x")] * size) * number

    def test_too_large_although_a_shorter_program_agrees(self):
        program = ShortProgram(*[(verb, word) for verb in ("lift", "addback") for word in samples.TWELVE])
        self.assertEqual(len(program), 24)
        self.assertEqual(len(program * 2), len(shortest(meaning(program.operations * 2))))
        with self.assertRaises(TooLarge):
            program * 3
        self.assertEqual(len(ShortProgram(*[("front", "x")] * 60) * 5), 1)

    def test_wrong_numbers(self):
        for made_class in CLASSES:
            program = made_class(("front", "x"), ("drop", "y"))
            for wrong in samples.WRONG_NUMBERS + [6, 7, 60, program, Editor(())]:
                if wrong == 0 and type(wrong) is int:
                    continue
                with self.subTest(repr(wrong)[:80]), self.assertRaises(InvalidNumber):
                    program * wrong
            self.assertEqual(len(program), 2)
            with self.assertRaises(InvalidNumber):
                Program(*[("front", "x")] * 60) * 6


class Equal(unittest.TestCase):
    def test_short_lists(self):
        programs = [(Program(*operations), behaviour(operations)) for operations in SHORT_LISTS]
        for (left, made), (right, other_made) in itertools.combinations_with_replacement(programs, 2):
            self.assertIs(left == right, made == other_made, [left.operations, right.operations])
        for (left, made), (right, other_made) in itertools.product(programs[::7], programs[::3]):
            self.assertIs(left != right, made != other_made, [left.operations, right.operations])

    def test_all_classes(self):
        for one, other in itertools.product(SHORT_LISTS[::4], SHORT_LISTS[::5]):
            for left, right in itertools.product(CLASSES + (Child,), CLASSES + (GrandChild,)):
                self.assertIs(left(*one) == right(*other), agree(one, other))
                self.assertIs(right(*other) == left(*one), agree(one, other))

    def test_one_word(self):
        programs = [(Program(*operations), behaviour(operations)) for operations in ONE_WORD_LISTS[::2]]
        others = [(ShortProgram(*operations), behaviour(operations)) for operations in ONE_WORD_LISTS[::3]]
        for (left, made), (right, other_made) in itertools.product(programs, others):
            self.assertIs(left == right, made == other_made, [left.operations, right.operations])

    def test_other_words(self):
        self.assertIs(Program(("front", "x")) == Program(("front", "y")), False)
        self.assertIs(Program() == Program(("lift", "x")), False)
        self.assertIs(Program() == ShortProgram(), True)

    def test_other_values(self):
        for made_class in CLASSES:
            for program in (made_class(), made_class(("front", "x"))):
                for other in OTHERS + [program.operations, program.meaning, tuple(program.operations)]:
                    with self.subTest(repr(other)[:80]):
                        self.assertIs(program == other, False)
                        self.assertIs(other == program, False)
                        self.assertIs(program != other, True)


class LenAndIn(unittest.TestCase):
    def test_len(self):
        for operations in SHORT_LISTS + ONE_WORD_LISTS + [[("front", "x")] * 60]:
            self.assertEqual(len(Program(*operations)), len(operations))
            self.assertEqual(len(ShortProgram(*operations)), len(shortest(meaning(operations))))

    def test_words(self):
        for made_class in CLASSES:
            program = made_class(("lift", "x"), ("drop", "y"), ("addback", "x"))
            for word in ("x", "y"):
                self.assertIs(word in program, True)
                self.assertIs(word in made_class(), False)
            for value in NO_WORDS + ["lift", "addback", program]:
                with self.subTest(repr(value)[:80]):
                    self.assertIs(value in program, False)
                    self.assertIs(value not in program, True)

    def test_verbs_that_are_words(self):
        for made_class in CLASSES:
            program = made_class(("front", "drop"), ("drop", "front"), ("lift", "always"))
            self.assertEqual([word in program for word in ("front", "drop", "always", "lift", "out")],
                             [True, True, True, False, False])

    def test_words_that_do_nothing_more(self):
        # A shortest program has all words of the program.
        self.assertIs("x" in ShortProgram(("front", "x"), ("drop", "x")), True)


class Short(unittest.TestCase):
    def test_two_words(self):
        searched = samples.all_shortest_programs(("x", "y"))
        for operations in SHORT_LISTS:
            program = ShortProgram(*operations)
            self.assertIn(program.operations, searched[behaviour(operations)])

    def test_one_word(self):
        searched = samples.all_shortest_programs(("x",))
        for operations in ONE_WORD_LISTS:
            self.assertIn(ShortProgram(*operations).operations, searched[behaviour(operations)])

    def test_long_lists(self):
        chance = random.Random(71)
        for _ in range(100):
            operations = samples.random_program(chance, samples.TWELVE[:chance.randint(1, 12)], chance.randint(0, 60))
            program = ShortProgram(*operations)
            self.assertEqual(len(program), sum(len(part) for part in meaning(operations)))
            self.assertIs(agree(program.operations, operations), True)
            self.assertEqual({word for verb, word in operations}, {word for verb, word in program.operations})
            self.assertIs(Program(*operations) == program, True)


class WholeProgram(unittest.TestCase):
    """What the document says of all programs, with objects."""

    def test_three_runs_are_two(self):
        chance = random.Random(72)
        for _ in range(200):
            program = Program(*samples.random_program(chance, ("x", "y", "z"), chance.randint(0, 12)))
            self.assertIs(program * 3 == program * 2, True)
            self.assertIs(program * 5 == program * 2, True)

    def test_two_rows_are_enough_for_many(self):
        many = [operations for operations in SHORT_LISTS
                if not {"lift", "addfront"} <= {verb for verb, word in operations}
                and not {"sink", "addback"} <= {verb for verb, word in operations}]
        programs = [(operations, Program(*operations)) for operations in many]
        for (one, left), (other, right) in itertools.combinations(programs, 2):
            words = tuple(sorted({word for verb, word in one + other}))
            rows = [("s",) + words + ("t",), ("s", "t")]
            same = all(samples.made(one, row) == samples.made(other, row) for row in rows)
            self.assertIs(left == right, same, [one, other])

    def test_number_of_programs_with_two_words(self):
        found = []
        for operations in samples.all_programs():
            program = Program(*operations)
            self.assertNotIn(program, found)
            found.append(program)
        self.assertEqual(len(found), 176)


if __name__ == "__main__":
    unittest.main()

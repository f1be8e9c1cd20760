"""Points 18 and 19: editors and editors with locked words."""

import itertools
import random
import time
import unittest

from frontback.editor import Editor, LockedEditor
from frontback.errors import (
    InvalidOperation, InvalidProgram, InvalidRow, InvalidWord, Locked, NothingToUndo, TooLarge,
)
from frontback.programs import Program
from frontback.routes import distance
from frontback.rows import is_program
from tests import samples

LETTERS = samples.LETTER_WORDS
PROGRAM = [("front", "x"), ("drop", "a"), ("addback", "x")]
OTHERS = [
    None, True, False, 0, 3, "", "a", "abc", (), ("a",), ("a", "b", "c"), [], ["a", "b", "c"], {}, {"a": "b"}, Editor,
    Program(("front", "a")), Program(), samples.DEEP,
]


def state(editor):
    """All that an editor tells of itself."""
    locked = editor.locked if isinstance(editor, LockedEditor) else None
    return [editor.row, editor.done, editor.start, len(editor), editor.short(), locked]


def both(row):
    """An editor and a locked editor that begin with the row and lock none of its words."""
    return [Editor(row), LockedEditor(row), LockedEditor(row, "unused")]


class Case(unittest.TestCase):
    def assert_raises(self, error, editor, method, *values, **named):
        """The call raises just this error and changes neither the editor nor its arguments."""
        before = repr([state(editor), values, named])
        with self.subTest([method, repr([values, named])[:120]]):
            with self.assertRaises(error) as caught:
                getattr(editor, method)(*values, **named)
            self.assertIs(type(caught.exception), error)
            self.assertEqual(repr([state(editor), values, named]), before)
        return caught.exception

    def assert_state(self, editor, start, done):
        """Compares with an own run of the operations."""
        row = samples.made(done, start)
        self.assertEqual([editor.row, editor.done, editor.start, len(editor)], [row, done, start, len(row)])
        self.assertEqual([type(editor.row), type(editor.done), type(editor.start)], [tuple, list, tuple])
        short = editor.short()
        self.assertEqual(samples.made(short, start), row)
        self.assertEqual(len(short), distance(start, row))
        self.assertLessEqual(len(short), len(done))


class Examples(unittest.TestCase):
    def test_lines(self):
        editor = Editor(("a", "b", "c"))
        last = editor.run([("front", "x"), ("drop", "a"), ("addback", "x")])
        self.assertIsNone(editor.undo())
        found = [last, editor.row, editor.done, len(editor.short()), "a" in editor]
        self.assertEqual(
            found, [("x", "b", "c"), ("x", "b", "c"), [("front", "x"), ("drop", "a")], 2, False])


class Constructor(Case):
    def test_nothing_is_done_at_first(self):
        for row in ((), ("a",), ("c", "a", "b"), LETTERS[:20]):
            for editor in both(row):
                self.assert_state(editor, row, [])
                self.assertEqual(editor.short(), [])

    def test_wrong_rows(self):
        for wrong in samples.WRONG_ROWS + [Editor(())]:
            for make in (Editor, LockedEditor):
                with self.subTest(repr(wrong)[:80]), self.assertRaises(InvalidRow):
                    make(wrong)

    def test_by_name(self):
        for make in (Editor, LockedEditor):
            self.assertEqual(make(row=("b", "a")).row, ("b", "a"))

    def test_bases(self):
        self.assertEqual([Editor.__bases__, LockedEditor.__bases__], [(object,), (Editor,)])

    def test_editors_are_independent(self):
        for one, other in zip(both(("a",)), both(("a",))):
            one.do(("front", "x"))
            self.assert_state(one, ("a",), [("front", "x")])
            self.assert_state(other, ("a",), [])


class Do(Case):
    def test_table(self):
        for verb in samples.VERBS:
            for row in [("a", "x", "b"), ("x", "a", "b"), ("a", "b", "x"), ("x",), ("a", "b"), ()]:
                for editor in both(row):
                    self.assertEqual(editor.do((verb, "x")), samples.made([(verb, "x")], row))
                    self.assert_state(editor, row, [(verb, "x")])

    def test_one_after_another(self):
        for editor in both(("a", "b")):
            self.assertEqual([editor.do(operation) for operation in PROGRAM], [("x", "a", "b"), ("x", "b"), ("x", "b")])
            self.assert_state(editor, ("a", "b"), PROGRAM)

    def test_by_name(self):
        for editor in both(("a",)):
            self.assertEqual(editor.do(operation=("front", "x")), ("x", "a"))

    def test_wrong_operations(self):
        for wrong in samples.WRONG_OPERATIONS + [PROGRAM, [("front", "x")], (("front", "x"),)]:
            for editor in both(("a",)):
                editor.do(("back", "b"))
                self.assert_raises(InvalidOperation, editor, "do", wrong)
                self.assert_raises(InvalidOperation, editor, "do", operation=wrong)


class Run(Case):
    def test_programs(self):
        chance = random.Random(91)
        for _ in range(100):
            program = samples.random_program(chance, ("a", "b", "c", "d"), chance.randint(0, 8))
            row = samples.random_row(chance, ("a", "b", "c", "q"))
            for editor in both(row):
                self.assertEqual(editor.run(program), samples.made(program, row))
                self.assert_state(editor, row, program)

    def test_the_empty_program(self):
        for editor in both(("a", "b")):
            self.assertEqual(editor.run([]), ("a", "b"))
            self.assert_state(editor, ("a", "b"), [])
            self.assert_raises(NothingToUndo, editor, "undo")

    def test_by_name(self):
        for editor in both(("a",)):
            self.assertEqual(editor.run(program=PROGRAM), ("x",))

    def test_wrong_programs(self):
        for wrong in samples.WRONG_PROGRAMS + [Program(("front", "x"))]:
            for editor in both(("a",)):
                editor.do(("back", "b"))
                self.assert_raises(InvalidProgram, editor, "run", wrong)
        # One wrong operation at the end, and none is executed.
        for editor in both(("a",)):
            self.assert_raises(InvalidProgram, editor, "run", PROGRAM + [("front", "X")])
            self.assert_raises(InvalidProgram, editor, "run", program=[("front", "x")] * 61)
            self.assertEqual(editor.row, ("a",))

    def test_a_list_that_is_changed_later(self):
        for editor in both(("a",)):
            program = list(PROGRAM)
            editor.run(program)
            self.assertEqual(program, PROGRAM)
            program.clear()
            self.assert_state(editor, ("a",), PROGRAM)
            editor.run(program)
            program.append(("drop", "x"))
            self.assert_state(editor, ("a",), PROGRAM)


class Undo(Case):
    def test_returns_none(self):
        for editor in both(("a",)):
            editor.do(("front", "x"))
            self.assertIsNone(editor.undo())
            self.assert_state(editor, ("a",), [])

    def test_operations_that_changed_nothing(self):
        for editor in both(("a", "b")):
            program = [("lift", "x"), ("front", "a"), ("addback", "b"), ("drop", "y"), ("back", "b"), ("sink", "q")]
            self.assertEqual(editor.run(program), ("a", "b"))
            for size in range(6, 0, -1):
                self.assert_state(editor, ("a", "b"), program[:size])
                editor.undo()
            self.assert_state(editor, ("a", "b"), [])
            self.assert_raises(NothingToUndo, editor, "undo")

    def test_each_operation_of_a_program_on_its_own(self):
        for editor in both(("a", "b", "c")):
            editor.do(("back", "a"))
            editor.run(PROGRAM)
            for done in [PROGRAM[:2], PROGRAM[:1], []]:
                editor.undo()
                self.assert_state(editor, ("a", "b", "c"), [("back", "a")] + done)
            editor.undo()
            self.assert_state(editor, ("a", "b", "c"), [])

    def test_nothing_to_undo(self):
        for editor in both(()):
            self.assert_raises(NothingToUndo, editor, "undo")
            editor.do(("lift", "x"))
            editor.undo()
            self.assert_raises(NothingToUndo, editor, "undo")
            self.assertEqual(editor.do(("front", "x")), ("x",))

    def test_after_an_error(self):
        for editor in both(("a",)):
            editor.do(("front", "x"))
            self.assert_raises(InvalidOperation, editor, "do", ("front", "X"))
            self.assert_raises(InvalidProgram, editor, "run", [None])
            editor.undo()
            self.assert_state(editor, ("a",), [])


class TooLargeEditors(Case):
    def test_sixty_operations_one_by_one(self):
        for editor in both(("a",)):
            for _ in range(60):
                editor.do(("lift", "x"))
            self.assertEqual(len(editor.done), 60)
            self.assert_raises(TooLarge, editor, "do", ("lift", "x"))
            self.assert_raises(TooLarge, editor, "do", ("front", "a"))
            self.assert_raises(TooLarge, editor, "run", [("front", "a")])
            self.assertEqual(editor.run([]), ("a",))

    def test_sixty_operations_at_once(self):
        for size in (1, 2, 30, 59, 60):
            for editor in both(("a",)):
                editor.run([("front", "x")] * size)
                self.assert_raises(TooLarge, editor, "run", [("drop", "x")] * (61 - size))
                editor.run([("drop", "x")] * (60 - size))
                self.assertEqual(len(editor.done), 60)
                self.assert_raises(TooLarge, editor, "do", ("front", "x"))

    def test_what_is_taken_back_does_not_count(self):
        for editor in both(()):
            editor.run([("front", "x")] * 60)
            editor.undo()
            self.assert_raises(TooLarge, editor, "run", [("drop", "x")] * 2)
            self.assertEqual(editor.do(("drop", "x")), ())
            self.assert_raises(TooLarge, editor, "do", ("drop", "x"))
            for _ in range(60):
                editor.undo()
            self.assert_raises(NothingToUndo, editor, "undo")
            self.assertEqual(editor.run([("front", "y")] * 60), ("y",))

    def test_twelve_words(self):
        for editor in both(()):
            for word in samples.TWELVE:
                editor.do(("lift", word))
            self.assert_raises(TooLarge, editor, "do", ("lift", "m"))
            self.assert_raises(TooLarge, editor, "run", [("lift", "a"), ("drop", "m")])
            editor.run([("drop", word) for word in samples.TWELVE])
            editor.undo()
            self.assert_raises(TooLarge, editor, "do", ("lift", "m"))

    def test_twelve_words_of_several_programs(self):
        for editor in both(LETTERS[:20]):
            editor.run([("drop", word) for word in LETTERS[:7]])
            self.assert_raises(TooLarge, editor, "run", [("lift", word) for word in LETTERS[7:13]])
            self.assert_raises(TooLarge, editor, "run", [("lift", word) for word in LETTERS[6:13]])
            editor.run([("lift", word) for word in LETTERS[5:12]])
            self.assert_raises(TooLarge, editor, "do", ("lift", "t"))
            self.assertEqual(len(editor.done), 14)
            # A word counts until the last operation on it is taken back.
            editor.undo()
            self.assertNotIn("l", {word for verb, word in editor.done})
            self.assertEqual(editor.do(("back", "t"))[-1], "t")
            self.assert_raises(TooLarge, editor, "do", ("lift", "l"))

    def test_words_of_the_row_do_not_count(self):
        for editor in both(LETTERS[:20]):
            self.assertEqual(editor.run([("drop", word) for word in LETTERS[:12]]), LETTERS[12:20])

    def test_twenty_words_of_the_row(self):
        row = LETTERS[:19]
        for verb in ("front", "back", "addfront", "addback"):
            for editor in both(row):
                self.assertEqual(len(editor.do((verb, "y"))), 20)
                self.assert_raises(TooLarge, editor, "do", (verb, "z"))
                self.assertEqual(len(editor.do((verb, "a"))), 20)
                self.assertEqual(len(editor.do(("lift", "z"))), 20)
                editor.do(("drop", "b"))
                self.assertEqual(len(editor.do((verb, "z"))), 20)

    def test_twenty_words_on_the_way(self):
        row = LETTERS[:20]
        for editor in both(row):
            # The row would be short again at the end.
            self.assert_raises(TooLarge, editor, "run", [("front", "z"), ("drop", "z")])
            self.assert_raises(TooLarge, editor, "run", [("drop", "a"), ("front", "z"), ("back", "y"), ("drop", "b"),
                                                         ("drop", "c")])
            self.assertEqual(len(editor.run([("drop", "a"), ("front", "z"), ("drop", "b"), ("addback", "y")])), 20)
            self.assert_raises(TooLarge, editor, "do", ("addback", "a"))
            self.assertEqual(editor.row, ("z",) + row[2:] + ("y",))
        for editor in both(row):
            editor.run([("drop", word) for word in row[:10]])
            program = [("front", word) for word in row[:10]] + [("front", "z"), ("drop", "z")]
            self.assert_raises(TooLarge, editor, "run", program)
            self.assertEqual(len(editor.row), 10)
            self.assertEqual(len(editor.run([("front", word) for word in row[:10]])), 20)

    def test_wrong_arguments_come_before(self):
        for editor in both(LETTERS[:20]):
            editor.run([("lift", word) for word in samples.TWELVE] * 5)
            self.assert_raises(InvalidOperation, editor, "do", ("up", "z"))
            self.assert_raises(InvalidProgram, editor, "run", [("front", "z")] * 61)
            self.assert_raises(TooLarge, editor, "do", ("front", "z"))


class Sequences(Case):
    def test_beside_a_row_and_a_list(self):
        chance = random.Random(92)
        errors = {TooLarge: 0, NothingToUndo: 0, None: 0}
        for round_number in range(150):
            words = LETTERS[:chance.choice([4, 13, 15, 24])]
            start = samples.random_row(chance, LETTERS[:chance.choice([4, 20, 26])])
            editor = chance.choice(both(start))
            done = []
            for _ in range(40):
                size = chance.choice([0, 1, 1, 1, 2, 5, 12]) if round_number % 3 else 1
                program = samples.random_program(chance, chance.sample(words, min(12, len(words))), size)
                error = self.step(editor, start, done, program, chance.randrange(4) == 0)
                errors[error] += 1
                self.assertEqual([editor.row, editor.done, editor.start], [samples.made(done, start), done, start])
            self.assert_state(editor, start, done)
        self.assertGreater(min(errors.values()), 50)

    def step(self, editor, start, done, program, back):
        """Does one thing with the editor and the list; the error that it raises."""
        if back:
            if not done:
                self.assert_raises(NothingToUndo, editor, "undo")
                return NothingToUndo
            done.pop()
            editor.undo()
            return None
        after = done + program
        rows = [samples.made(after[:size], start) for size in range(len(done), len(after) + 1)]
        method, value = ("do", program[0]) if len(program) == 1 else ("run", program)
        if len(after) > 60 or len({word for verb, word in after}) > 12 or max(map(len, rows)) > 20:
            self.assert_raises(TooLarge, editor, method, value)
            return TooLarge
        self.assertEqual(getattr(editor, method)(value), rows[-1])
        done.extend(program)
        return None

    def test_all_short_sequences(self):
        operations = [(verb, word) for verb in samples.VERBS for word in ("x", "y")]
        for start in samples.rows_of(("x", "s")):
            for program in itertools.product(operations, repeat=2):
                editor = Editor(start)
                rows = [editor.do(operation) for operation in program]
                self.assertEqual(rows, [samples.made(program[:1], start), samples.made(program, start)])
                editor.undo()
                self.assertEqual([editor.row, editor.done], [rows[0], [program[0]]])
                editor.undo()
                self.assertEqual([editor.row, editor.done], [start, []])


class Asked(Case):
    def test_done_is_a_new_list(self):
        for editor in both(("a",)):
            for done in ([], PROGRAM):
                editor.run(done)
                found = editor.done
                found.append(("drop", "b"))
                found[0] = None
                self.assert_state(editor, ("a",), done)
                self.assertIsNot(editor.done, editor.done)

    def test_short_is_a_new_list(self):
        for editor in both(("a", "b")):
            editor.run(PROGRAM)
            found = editor.short()
            expected = list(found)
            found.clear()
            self.assertEqual(editor.short(), expected)
            self.assert_state(editor, ("a", "b"), PROGRAM)

    def test_short(self):
        for editor in both(("a", "b", "c", "d")):
            editor.run([("front", "d"), ("front", "c"), ("back", "d"), ("sink", "d"), ("lift", "q")])
            self.assertEqual(editor.row, ("c", "a", "b", "d"))
            self.assertIn(editor.short(), ([("front", "c")], [("lift", "c")]))
            editor.undo()
            editor.do(("front", "b"))
            self.assert_state(editor, ("a", "b", "c", "d"), editor.done)
            self.assertEqual([editor.row, len(editor.short())], [("b", "c", "a", "d"), 2])
        for editor in both(LETTERS[:20]):
            editor.run([("drop", word) for word in LETTERS[:12]])
            self.assertEqual(sorted(editor.short()), [("drop", word) for word in LETTERS[:12]])

    def test_short_without_a_change(self):
        for editor in both(("a", "b")):
            editor.run([("front", "b"), ("front", "a")])
            self.assertEqual([editor.short(), len(editor.done)], [[], 2])
            self.assertIs(is_program(editor.short()), True)

    def test_len(self):
        for size in range(21):
            for editor in both(LETTERS[:size]):
                self.assertEqual(len(editor), size)
                self.assertEqual(len(editor.do(("drop", "a"))), len(editor))

    def test_in(self):
        for editor in both(("a", "front", "zz")):
            editor.do(("drop", "a"))
            editor.do(("back", "x"))
            for word in ("front", "zz", "x"):
                self.assertIs(word in editor, True)
            values = ["a", "z", "frontzz", ("x",), ["x"], ("front", "zz", "x"), {"x": "x"}, editor]
            for value in samples.WRONG_WORDS + values:
                with self.subTest(repr(value)[:80]):
                    self.assertIs(value in editor, False)
                    self.assertIs(value not in editor, True)

    def test_properties_cannot_be_assigned(self):
        for editor in both(("a",)):
            for name in ("row", "done", "start"):
                with self.assertRaises(AttributeError):
                    setattr(editor, name, ())


class Equal(Case):
    def test_present_rows_count(self):
        for at, other_at in itertools.product(range(3), repeat=2):
            one, other = both(("a", "b"))[at], both(("b", "a"))[other_at]
            self.assertEqual([one == other, one != other, other == one], [False, True, False])
            one.do(("front", "b"))
            self.assertEqual([one == other, one != other, other == one], [True, False, True])
            other.do(("addback", "c"))
            self.assertEqual([one == other, one != other, other == one], [False, True, False])
            one.run([("back", "c"), ("lift", "x"), ("lift", "x")])
            self.assertIs(one == other, True)

    def test_editors_and_locked_editors(self):
        editors = [Editor(("a",)), LockedEditor(("a",)), LockedEditor(("a",), "a", "x")]
        for one, other in itertools.product(editors, repeat=2):
            self.assertIs(one == other, True)
            self.assertIs(one != other, False)

    def test_all_small_rows(self):
        for row, other in itertools.product(samples.rows_of(("x", "y", "z")), repeat=2):
            self.assertIs(Editor(row) == Editor(other), row == other)
            self.assertIs(LockedEditor(row, "x") == Editor(other), row == other)

    def test_other_values(self):
        for editor in both(("a", "b", "c")) + both(()):
            for other in OTHERS + [editor.row, list(editor.row), editor.done]:
                with self.subTest(repr(other)[:80]):
                    self.assertIs(editor == other, False)
                    self.assertIs(other == editor, False)
                    self.assertIs(editor != other, True)


class LockedWords(Case):
    def test_locked(self):
        self.assertEqual(LockedEditor(("a",)).locked, ())
        self.assertEqual(LockedEditor((), "x").locked, ("x",))
        self.assertEqual(LockedEditor(("a", "b"), "b", "zz", "a", "b", "ab", "a").locked, ("a", "ab", "b", "zz"))
        self.assertEqual(LockedEditor((), *LETTERS[::-1] * 7).locked, LETTERS)
        self.assertIs(type(LockedEditor((), "x").locked), tuple)

    def test_wrong_locked_words(self):
        for wrong in samples.WRONG_WORDS + [("x",), ["x", "y"]]:
            for locked in [(wrong,), ("x", wrong), (wrong, "x"), ("x", "x", wrong, wrong), ("x",) * 199 + (wrong,)]:
                with self.subTest(repr(wrong)[:80]), self.assertRaises(InvalidWord):
                    LockedEditor(("a",), *locked)

    def test_the_row_comes_first(self):
        for wrong in samples.WRONG_ROWS:
            for locked in [(None,), ("X",), ("x",), ([],)]:
                with self.assertRaises(InvalidRow):
                    LockedEditor(wrong, *locked)

    def assert_locked(self, word, editor, method, value):
        error = self.assert_raises(Locked, editor, method, value)
        self.assertEqual(error.word, word)

    def test_every_verb(self):
        for verb in samples.VERBS:
            for row in [(), ("x",), ("a", "x", "b"), ("x", "a")]:
                editor = LockedEditor(row, "x")
                self.assert_locked("x", editor, "do", (verb, "x"))
                self.assert_locked("x", editor, "run", [(verb, "x")])
                self.assert_locked("x", editor, "run", [("front", "a"), (verb, "x"), ("front", "b")])
                self.assertEqual(editor.do((verb, "y")), samples.made([(verb, "y")], row))

    def test_operations_that_would_change_nothing(self):
        editor = LockedEditor(("a", "b"), "a", "x")
        for operation in [("lift", "x"), ("drop", "x"), ("sink", "x"), ("front", "a"), ("addback", "a"), ("lift", "a")]:
            self.assert_locked(operation[1], editor, "do", operation)

    def test_the_first_one_counts(self):
        editor = LockedEditor(("a", "b"), "b", "a", "x")
        for first, second in itertools.permutations(("a", "b", "x"), 2):
            program = [("front", "q"), ("lift", first), ("lift", second), ("lift", first)]
            self.assert_locked(first, editor, "run", program)

    def test_verbs_are_not_locked(self):
        editor = LockedEditor(("a",), "front", "drop")
        self.assertEqual(editor.run([("front", "b"), ("drop", "a")]), ("b",))
        self.assert_locked("drop", editor, "run", [("front", "back"), ("back", "drop"), ("drop", "front")])

    def test_after_the_arguments_are_checked(self):
        editor = LockedEditor(("a",), "x")
        self.assert_raises(InvalidOperation, editor, "do", ("Front", "x"))
        self.assert_raises(InvalidOperation, editor, "do", ["front", "x"])
        self.assert_raises(InvalidProgram, editor, "run", [("front", "x"), ("front", "X")])
        self.assert_raises(InvalidProgram, editor, "run", [("front", "x")] * 61)
        self.assert_raises(InvalidProgram, editor, "run", (("front", "x"),))
        self.assert_raises(InvalidProgram, editor, "run", [("lift", word) for word in samples.THIRTEEN + ("x",)])

    def test_before_too_large(self):
        editor = LockedEditor(LETTERS[:20], "x")
        self.assert_locked("x", editor, "do", ("front", "x"))
        self.assert_locked("x", editor, "run", [("front", "z"), ("front", "x")])
        editor.run([("lift", word) for word in samples.TWELVE] * 5)
        self.assert_locked("x", editor, "do", ("lift", "x"))
        self.assert_locked("x", editor, "run", [("lift", "a"), ("lift", "z"), ("drop", "x")])
        self.assert_raises(TooLarge, editor, "do", ("lift", "a"))

    def test_undo_with_locked_words(self):
        editor = LockedEditor(("a", "b"), "b")
        editor.do(("front", "x"))
        self.assert_locked("b", editor, "do", ("front", "b"))
        editor.undo()
        self.assert_state(editor, ("a", "b"), [])
        self.assert_locked("b", editor, "run", PROGRAM + [("drop", "b")])
        self.assert_raises(NothingToUndo, editor, "undo")

    def test_short_is_free(self):
        editor = LockedEditor(("a", "b", "c"), "a")
        editor.run([("front", "c"), ("front", "b"), ("addback", "d")])
        self.assert_state(editor, ("a", "b", "c"), [("front", "c"), ("front", "b"), ("addback", "d")])
        self.assertEqual(editor.row, ("b", "c", "a", "d"))
        # The shortest list moves the locked word.
        self.assertEqual([word for verb, word in editor.short()], ["a", "d"])

    def test_words_locked_in_one_editor_only(self):
        one, other = LockedEditor(("a",), "x"), LockedEditor(("a",), "y")
        self.assertEqual([one.do(("front", "y")), other.do(("front", "x"))], [("y", "a"), ("x", "a")])
        self.assert_locked("x", one, "do", ("front", "x"))
        self.assertEqual([one.locked, other.locked], [("x",), ("y",)])

    def test_locked_stays(self):
        editor = LockedEditor(("a", "x"), "x", "q")
        editor.run([("drop", "a"), ("front", "b")])
        editor.undo()
        self.assertEqual(editor.locked, ("q", "x"))
        with self.assertRaises(AttributeError):
            editor.locked = ()


class Time(unittest.TestCase):
    def test_long_calls_end_soon(self):
        start = time.perf_counter()
        others = tuple(word * 2 for word in LETTERS[:20])
        for editor in (Editor(LETTERS[:20]), LockedEditor(LETTERS[:20], *others * 10)):
            editor.run([(verb, word) for verb in ("lift", "sink", "front", "back", "lift") for word in samples.TWELVE])
            for operation in editor.done:
                editor.undo()
            for operation in [("drop", word) for word in samples.TWELVE] * 5:
                editor.do(operation)
            self.assertEqual([len(editor), len(editor.short())], [8, 12])
        self.assertLess(time.perf_counter() - start, 2)


if __name__ == "__main__":
    unittest.main()

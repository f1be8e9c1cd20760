"""Point 17: programs as texts."""

import random
import re
import time
import unittest

from frontback.errors import InvalidProgram, InvalidText
from frontback.rows import is_program
from frontback.texts import read, write
from tests import samples

SIGNS = [chr(code) for code in range(32, 127)] + ["\t", "\n", "\r"]
SHORT_LISTS = samples.programs_of(("x", "yy"), 2)

OPERATION = "(?:front|back|drop|addfront|addback|lift|sink) [a-z]{1,8}"
TEXT = re.compile(rf"\A(?:{OPERATION}(?:; {OPERATION})*)?\Z")

def text_of(operations):
    """The text of operations, put together by hand."""
    text = ""
    for verb, word in operations:
        if text != "":
            text = text + "; "
        text = text + verb + " " + word
    return text


class Write(unittest.TestCase):
    def test_examples(self):
        self.assertEqual(write([("front", "x"), ("drop", "y")]), "front x; drop y")
        self.assertEqual(write([]), "")
        self.assertEqual(write([("addback", "abcdefgh")]), "addback abcdefgh")

    def test_short_programs(self):
        for program in SHORT_LISTS:
            self.assertEqual(write(program), text_of(program))
            self.assertIs(type(write(program)), str)

    def test_every_verb(self):
        self.assertEqual(write([(verb, "x") for verb in samples.VERBS]),
                         "front x; back x; drop x; addfront x; addback x; lift x; sink x")

    def test_words_that_are_verbs(self):
        self.assertEqual(write([("front", "drop"), ("drop", "front")]), "front drop; drop front")

    def test_wrong_programs(self):
        for wrong in samples.WRONG_PROGRAMS + ["front x", "", ((), (), ())]:
            with self.subTest(repr(wrong)[:80]), self.assertRaises(InvalidProgram):
                write(wrong)

    def test_by_name(self):
        self.assertEqual(write(program=[("sink", "x")]), "sink x")

    def test_argument_is_not_modified(self):
        program = [("front", "x"), ("drop", "y")]
        write(program)
        self.assertEqual(program, [("front", "x"), ("drop", "y")])


class Read(unittest.TestCase):
    def assert_wrong(self, value):
        with self.subTest(repr(value)[:80]), self.assertRaises(InvalidText) as caught:
            read(value)
        self.assertIs(type(caught.exception), InvalidText)

    def test_examples(self):
        self.assertEqual(read("front x; drop y"), [("front", "x"), ("drop", "y")])
        self.assertEqual(read(""), [])

    def test_short_programs(self):
        for program in SHORT_LISTS:
            found = read(text_of(program))
            self.assertEqual(found, program)
            self.assertEqual([type(found)] + [type(operation) for operation in found], [list] + [tuple] * len(program))
            self.assertIs(is_program(found), True)

    def test_long_programs(self):
        chance = random.Random(81)
        for _ in range(300):
            words = ["".join(chance.choices(samples.LETTERS, k=chance.randint(1, 8))) for _ in range(12)]
            program = samples.random_program(chance, words, chance.randint(0, 60))
            self.assertEqual(read(write(program)), program)
            self.assertEqual(write(read(text_of(program))), text_of(program))

    def test_each_text_that_differs_by_one_sign(self):
        texts = set()
        for program in SHORT_LISTS:
            text = text_of(program)
            ends = [(text[:at], text[at:]) for at in range(len(text) + 1)]
            texts.update(left + right[1:] for left, right in ends)
            texts.update(left + sign + right for left, right in ends for sign in SIGNS)
            texts.update(left + sign + right[1:] for left, right in ends for sign in SIGNS)
        good = [text for text in texts if TEXT.match(text) is not None]
        for text in good:
            self.assertEqual(text_of(read(text)), text)
        for text in texts.difference(good):
            with self.assertRaises(InvalidText, msg=text):
                read(text)
        self.assertGreater(len(good), 10000)
        self.assertGreater(len(texts), 500000)

    def test_near_texts(self):
        for text in samples.NEAR_TEXTS:
            self.assertIsNone(TEXT.match(text), repr(text))
            self.assert_wrong(text)

    def test_values_of_other_kinds(self):
        others = samples.WRONG_PROGRAMS + samples.WRONG_ROWS + samples.WRONG_MEANINGS + samples.WRONG_OPERATIONS
        for wrong in samples.WRONG_TEXTS + others:
            if wrong not in ("", "front x; drop y"):
                self.assert_wrong(wrong)

    def test_lengths_of_words(self):
        for size in range(1, 9):
            self.assertEqual(read("lift " + "abcdefgh"[:size]), [("lift", "abcdefgh"[:size])])
        for size in (9, 10, 1995):
            self.assert_wrong("lift " + "a" * size)
            self.assert_wrong("lift x; lift " + "a" * size)

    def test_numbers_of_operations(self):
        for size in (1, 59, 60):
            self.assertEqual(read("; ".join(["front x"] * size)), [("front", "x")] * size)
        for size in (61, 62, 200):
            self.assert_wrong("; ".join(["front x"] * size))
        longest = [("addfront", letter * 8) for letter in samples.TWELVE] * 5
        self.assertEqual(read(text_of(longest)), longest)

    def test_numbers_of_words(self):
        for verb in samples.VERBS:
            program = [(verb, word) for word in samples.TWELVE]
            self.assertEqual(read(text_of(program * 5)), program * 5)
            self.assert_wrong(text_of([(verb, word) for word in samples.THIRTEEN]))
        longest = [(verb, word) for verb in samples.VERBS[:5] for word in samples.TWELVE]
        self.assertEqual(read(text_of(longest)), longest)

    def test_by_name(self):
        self.assertEqual(read(text="sink x"), [("sink", "x")])

    def test_returned_lists_are_new(self):
        for text in ("", "front x; drop y"):
            found = read(text)
            expected = list(found)
            found.append(("drop", "x"))
            self.assertEqual(read(text), expected)

    def test_long_texts_end_soon(self):
        start = time.perf_counter()
        for text in ("; " * 1000, " " * 2000, ";" * 2000, "a" * 2000, "front x; " * 222, "front x " * 250, "\n" * 2000):
            self.assert_wrong(text)
        self.assertLess(time.perf_counter() - start, 1)


if __name__ == "__main__":
    unittest.main()

"""Point 8 and the interface of frontback/errors.py."""

import unittest

from frontback import errors

WITHOUT_FIELDS = [
    "InvalidRow", "InvalidRows", "InvalidProgram", "InvalidOperation", "InvalidWord", "InvalidNames",
    "InvalidMeaning", "InvalidNumber", "InvalidFences", "InvalidResults", "InvalidText", "TooLarge", "NoProgram",
    "NoSource", "NothingToUndo",
]


class ErrorClasses(unittest.TestCase):
    def test_base(self):
        self.assertEqual(errors.FrontBackError.__bases__, (ValueError,))
        self.assertEqual(errors.FrontBackError.__module__, "frontback.errors")

    def test_each_derives_directly_from_the_base(self):
        self.assertEqual(len(set(WITHOUT_FIELDS)), 15)
        for name in WITHOUT_FIELDS + ["Locked"]:
            with self.subTest(name):
                error = getattr(errors, name)
                self.assertEqual(error.__bases__, (errors.FrontBackError,))
                self.assertEqual(error.__name__, name)
                self.assertEqual(error.__module__, "frontback.errors")

    def test_there_are_no_others(self):
        names = {name for name, value in vars(errors).items() if isinstance(value, type)}
        self.assertEqual(names, set(WITHOUT_FIELDS + ["FrontBackError", "Locked"]))

    def test_with_and_without_a_message(self):
        for name in WITHOUT_FIELDS + ["FrontBackError"]:
            with self.subTest(name):
                error = getattr(errors, name)
                self.assertEqual(vars(error()), {})
                self.assertEqual(vars(error("why")), {})
                with self.assertRaises(error) as caught:
                    raise error("why")
                self.assertIs(type(caught.exception), error)
                with self.assertRaises(error):
                    raise error()

    def test_caught_as_base_and_as_value_error(self):
        for name in WITHOUT_FIELDS + ["Locked"]:
            for base in (errors.FrontBackError, ValueError):
                with self.assertRaises(base):
                    raise getattr(errors, name)("x")


class LockedField(unittest.TestCase):
    def test_default_is_none(self):
        self.assertIsNone(errors.Locked().word)

    def test_holds_the_very_object(self):
        for value in [None, True, 0, 10 ** 999, "", "x", "Not A Word", (), ("x",), [], ["x"], {}, {"x": [()]}]:
            with self.subTest(repr(value)[:40]):
                self.assertIs(errors.Locked(value).word, value)
                self.assertIs(errors.Locked(word=value).word, value)

    def test_a_list_is_not_copied(self):
        words = ["x"]
        error = errors.Locked(words)
        words.append("y")
        self.assertIs(error.word, words)
        self.assertEqual(error.word, ["x", "y"])

    def test_field_belongs_to_each_object(self):
        one, two, three = errors.Locked("x"), errors.Locked(word="y"), errors.Locked()
        self.assertEqual([vars(one), vars(two), vars(three)], [{"word": "x"}, {"word": "y"}, {"word": None}])

    def test_raised(self):
        with self.assertRaises(errors.Locked) as caught:
            raise errors.Locked("x")
        self.assertEqual(caught.exception.word, "x")


if __name__ == "__main__":
    unittest.main()

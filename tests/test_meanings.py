"""Points 5, 6 and 10: meanings and what follows from them."""

import itertools
import random
import unittest

from frontback.errors import TooLarge
from frontback.meanings import (
    agree, apply, commute, difference, forgets, is_meaning, joined, meaning, settles,
)
from tests import samples

PROGRAM = [("lift", "x"), ("front", "y"), ("addback", "x"), ("drop", "z")]
PROGRAMS = samples.all_programs()
ROWS = samples.ROWS
RESULTS = [tuple(samples.made(program, row) for row in ROWS) for program in PROGRAMS]


def same(one, other):
    """Whether two lists of operations with the words x and y make the same rows."""
    return all(samples.made(one, row) == samples.made(other, row) for row in ROWS)


class Meaning(unittest.TestCase):
    def test_example(self):
        expected = ((("y", "always"), ("x", "present")), (("x", "absent"),), ("z",))
        self.assertEqual(meaning(PROGRAM), expected)
        self.assertEqual(meaning([("lift", "x"), ("addfront", "x")]), ((("x", "always"),), (), ()))

    def test_empty(self):
        self.assertEqual(meaning([]), ((), (), ()))

    def test_one_operation(self):
        expected = {
            "front": ((("x", "always"),), (), ()),
            "lift": ((("x", "present"),), (), ()),
            "addfront": ((("x", "absent"),), (), ()),
            "back": ((), (("x", "always"),), ()),
            "sink": ((), (("x", "present"),), ()),
            "addback": ((), (("x", "absent"),), ()),
            "drop": ((), (), ("x",)),
        }
        for verb in samples.VERBS:
            self.assertEqual(meaning([(verb, "x")]), expected[verb])

    def test_order_of_entries(self):
        self.assertEqual(meaning([("front", "a"), ("lift", "b"), ("addfront", "c")])[0],
                         (("c", "absent"), ("b", "present"), ("a", "always")))
        self.assertEqual(meaning([("back", "a"), ("sink", "b"), ("addback", "c")])[1],
                         (("a", "always"), ("b", "present"), ("c", "absent")))

    def test_dropped_are_ascending(self):
        self.assertEqual(meaning([("drop", word) for word in ("c", "a", "b", "aa", "c")]),
                         ((), (), ("a", "aa", "b", "c")))

    def test_two_entries_of_a_word(self):
        self.assertEqual(meaning([("lift", "x"), ("front", "y"), ("addfront", "x")]),
                         ((("x", "absent"), ("y", "always"), ("x", "present")), (), ()))
        self.assertEqual(meaning([("sink", "x"), ("back", "y"), ("addback", "x")]),
                         ((), (("x", "present"), ("y", "always"), ("x", "absent")), ()))
        self.assertEqual(meaning([("sink", "x"), ("addfront", "x")]),
                         ((("x", "absent"),), (("x", "present"),), ()))

    def test_joined_into_one_entry(self):
        self.assertEqual(meaning([("sink", "x"), ("addback", "x")]), ((), (("x", "always"),), ()))
        program = [("lift", "x"), ("front", "y"), ("addfront", "x"), ("back", "y")]
        self.assertEqual(meaning(program), ((("x", "always"),), (("y", "always"),), ()))
        program = [("sink", "x"), ("back", "y"), ("addback", "x"), ("drop", "y")]
        self.assertEqual(meaning(program), ((), (("x", "always"),), ("y",)))
        self.assertEqual(meaning([("lift", "x"), ("addback", "x"), ("sink", "x")]), ((), (("x", "always"),), ()))

    def test_not_joined(self):
        self.assertEqual(meaning([("addfront", "x"), ("lift", "x")]), ((("x", "always"),), (), ()))
        self.assertEqual(meaning([("lift", "x"), ("addback", "x")]), ((("x", "present"),), (("x", "absent"),), ()))

    def test_words_that_are_verbs_and_cases(self):
        self.assertEqual(meaning([("lift", "always"), ("back", "present"), ("drop", "drop")]),
                         ((("always", "present"),), (("present", "always"),), ("drop",)))

    def test_is_made_of_tuples(self):
        found = meaning(PROGRAM)
        self.assertEqual([type(found)] + [type(part) for part in found], [tuple] * 4)
        self.assertEqual({type(entry) for entry in found[0] + found[1]}, {tuple})

    def test_every_program_has_exactly_one(self):
        found = [meaning(program) for program in PROGRAMS]
        self.assertEqual(len(PROGRAMS), 176)
        self.assertEqual(len(set(found)), 176)
        for triple, results in zip(found, RESULTS):
            self.assertEqual(tuple(samples.stands_for(triple, row) for row in ROWS), results)

    def test_same_for_programs_that_do_the_same(self):
        meanings = {results: meaning(program) for program, results in zip(PROGRAMS, RESULTS)}
        source = random.Random(1)
        for _ in range(300):
            program = samples.random_program(source, ("x", "y"), source.randint(0, 12))
            results = tuple(samples.made(program, row) for row in ROWS)
            self.assertEqual(meaning(program), meanings[results])

    def test_words_are_those_of_the_program(self):
        source = random.Random(2)
        for _ in range(100):
            program = samples.random_program(source, samples.TWELVE, source.randint(0, 60))
            front, back, dropped = meaning(program)
            words = {word for word, case in front + back} | set(dropped)
            self.assertEqual(words, {word for verb, word in program})

    def test_large_programs(self):
        source = random.Random(3)
        for _ in range(200):
            program = samples.random_program(source, samples.TWELVE, source.randint(0, 60))
            triple = meaning(program)
            self.assertIs(is_meaning(triple), True)
            for _ in range(5):
                row = samples.random_row(source, samples.LETTER_WORDS)
                self.assertEqual(samples.stands_for(triple, row), samples.made(program, row))

    def test_twelve_words_with_two_entries_each(self):
        program = [("lift", word) for word in samples.TWELVE] + [("addback", word) for word in samples.TWELVE]
        self.assertEqual(
            meaning(program),
            (tuple((word, "present") for word in samples.TWELVE[::-1]),
             tuple((word, "absent") for word in samples.TWELVE), ()),
        )


class IsMeaning(unittest.TestCase):
    def test_meanings(self):
        for value in samples.GOOD_MEANINGS:
            with self.subTest(value):
                self.assertIs(is_meaning(value), True)

    def test_wrong_form(self):
        for value in samples.MISSHAPEN_MEANINGS:
            with self.subTest(repr(value)[:80]):
                self.assertIs(is_meaning(value), False)

    def test_right_form_but_no_meaning(self):
        for value in samples.INCONSISTENT_MEANINGS:
            with self.subTest(value):
                self.assertIs(is_meaning(value), False)

    def test_numbers_of_words(self):
        for size in range(9, 16):
            words = samples.LETTER_WORDS[:size]
            triples = [
                (tuple((word, "always") for word in words), (), ()),
                ((), tuple((word, "absent") for word in words), ()),
                ((), (), words),
                (tuple((word, "present") for word in words[:4]), (), words[4:]),
                (tuple((word, "present") for word in words), tuple((word, "absent") for word in words), ()),
            ]
            for triple in triples:
                self.assertIs(is_meaning(triple), size <= 12, triple)

    def test_exactly_the_meanings_of_programs(self):
        expected = {meaning(program) for program in PROGRAMS}
        entries = [(word, case) for word in ("x", "y") for case in samples.CASES]
        found = set()
        for size in range(5):
            for chosen in itertools.product(entries, repeat=size):
                for cut in range(size + 1):
                    for dropped in [(), ("x",), ("y",), ("x", "y")]:
                        triple = (chosen[:cut], chosen[cut:], dropped)
                        if is_meaning(triple):
                            found.add(triple)
        self.assertEqual(found, expected)

    def test_order_of_making_with_three_words(self):
        source = random.Random(7)
        halves = [(word, case) for word in ("x", "y", "z") for case in ("present", "absent")]
        seen = set()
        for _ in range(2000):
            entries = list(halves)
            source.shuffle(entries)
            cut = source.randint(0, 6)
            front, back = tuple(entries[:cut]), tuple(entries[cut:])
            if any(one[0] == two[0] for part in (front, back) for one, two in zip(part, part[1:])):
                continue
            possible = can_be_made(front, back)
            seen.add(possible)
            self.assertIs(is_meaning((front, back, ())), possible, (front, back))
        self.assertEqual(seen, {True, False})


def can_be_made(front, back):
    """Whether some order of all entries is one in which a program can make them."""
    right, left = list(front), list(back)
    made = []
    while right or left:
        ready = [
            (part, at)
            for part, at in ((right, -1), (left, 0))
            if part and (part[at][1] != "absent" or (part[at][0], "present") in made)
        ]
        if not ready:
            return False
        part, at = ready[0]
        made.append(part.pop(at))
    return True


class Apply(unittest.TestCase):
    def test_example(self):
        triple = ((("y", "always"), ("x", "present")), (("x", "absent"),), ("z",))
        self.assertEqual(apply(triple, ("a", "x", "z")), ("y", "x", "a"))
        self.assertEqual(apply(triple, ("z", "a")), ("y", "a", "x"))

    def test_empty(self):
        self.assertEqual(apply(((), (), ()), ()), ())
        self.assertEqual(apply(((), (), ()), ("b", "a")), ("b", "a"))
        self.assertEqual(apply(((), (), ("a",)), ("a",)), ())
        self.assertEqual(apply(((), (), ("a",)), ()), ())

    def test_one_entry(self):
        rows = [("a", "x", "b"), ("a", "b")]
        expected = [
            ((("x", "always"),), (), (), ("x", "a", "b"), ("x", "a", "b")),
            ((("x", "present"),), (), (), ("x", "a", "b"), ("a", "b")),
            ((("x", "absent"),), (), (), ("a", "x", "b"), ("x", "a", "b")),
            ((), (("x", "always"),), (), ("a", "b", "x"), ("a", "b", "x")),
            ((), (("x", "present"),), (), ("a", "b", "x"), ("a", "b")),
            ((), (("x", "absent"),), (), ("a", "x", "b"), ("a", "b", "x")),
            ((), (), ("x",), ("a", "b"), ("a", "b")),
        ]
        for front, back, dropped, *made in expected:
            self.assertEqual([apply((front, back, dropped), row) for row in rows], made)

    def test_good_meanings(self):
        source = random.Random(8)
        words = sorted(samples.LETTER_WORDS[:17] + ("v", "w", "x", "y", "z", "aa", "always", "absent", "front"))
        for triple in samples.GOOD_MEANINGS:
            for _ in range(20):
                row = samples.random_row(source, words)
                made = apply(triple, row)
                self.assertEqual(made, samples.stands_for(triple, row))
                self.assertIs(type(made), tuple)

    def test_like_the_program(self):
        for program, results in zip(PROGRAMS, RESULTS):
            triple = meaning(program)
            self.assertEqual(tuple(apply(triple, row) for row in ROWS), results)

    def test_more_than_twenty_words(self):
        row = samples.LETTER_WORDS[:20]
        front = tuple((word * 2, "always") for word in samples.TWELVE[:6])
        back = tuple((word * 2, "absent") for word in samples.TWELVE[6:])
        words = tuple(word * 2 for word in samples.TWELVE)
        self.assertEqual(apply((front, back, ()), row), words[:6] + row + words[6:])


class Agree(unittest.TestCase):
    def test_example(self):
        self.assertIs(agree([("lift", "x"), ("lift", "y")], [("lift", "y"), ("lift", "x")]), False)

    def test_some(self):
        self.assertIs(agree([], []), True)
        self.assertIs(agree([("front", "x")], [("lift", "x"), ("addfront", "x")]), True)
        self.assertIs(agree([("drop", "x")], [("front", "x"), ("drop", "x")]), True)
        self.assertIs(agree([("drop", "x"), ("drop", "y")], [("drop", "y"), ("drop", "x"), ("drop", "y")]), True)
        self.assertIs(agree([("drop", "x")], []), False)
        self.assertIs(agree([], [("lift", "x")]), False)
        self.assertIs(agree([("front", "x")], [("back", "x")]), False)
        self.assertIs(agree([("front", "x")], [("front", "y")]), False)

    def test_pairs(self):
        source = random.Random(9)
        for _ in range(1500):
            one, other = source.randrange(176), source.randrange(176)
            self.assertIs(agree(PROGRAMS[one], PROGRAMS[other]), one == other)
        for program in PROGRAMS:
            longer = program + program + program
            self.assertIs(agree(longer, program + program), True)

    def test_after_a_detour(self):
        source = random.Random(10)
        found = set()
        for _ in range(600):
            one = samples.random_program(source, ("x", "y"), source.randint(0, 5))
            other = samples.random_program(source, ("x", "y"), source.randint(0, 5))
            self.assertIs(agree(one, other), same(one, other))
            found.add(same(one, other))
        self.assertEqual(found, {True, False})


class Difference(unittest.TestCase):
    def assert_shortest(self, one, other, size):
        row = difference(one, other)
        self.assertIs(type(row), tuple)
        self.assertEqual(len(row), size)
        self.assertEqual(len(set(row)), size)
        self.assertNotEqual(samples.made(one, row), samples.made(other, row))

    def test_example(self):
        self.assert_shortest([("lift", "x")], [], 2)

    def test_none_if_they_agree(self):
        self.assertIsNone(difference([], []))
        self.assertIsNone(difference([("front", "x")], [("lift", "x"), ("addfront", "x")]))
        for program in PROGRAMS:
            self.assertIsNone(difference(program, program))

    def test_no_word(self):
        self.assertEqual(difference([("front", "x")], []), ())
        self.assertEqual(difference([("front", "x")], [("front", "y")]), ())
        self.assertEqual(difference([("front", "x"), ("front", "y")], [("front", "y"), ("front", "x")]), ())

    def test_one_word(self):
        self.assertEqual(difference([("drop", "x")], []), ("x",))
        self.assert_shortest([("addfront", "x")], [("addback", "x")], 1)
        self.assert_shortest([("front", "x")], [("back", "x")], 1)
        self.assert_shortest([("drop", "x")], [("lift", "x")], 1)

    def test_two_words(self):
        self.assert_shortest([("lift", "x")], [("sink", "x")], 2)
        self.assert_shortest([("front", "x")], [("addfront", "x")], 2)
        self.assertEqual(set(difference([("lift", "x"), ("lift", "y")], [("lift", "y"), ("lift", "x")])), {"x", "y"})

    def test_pairs(self):
        source = random.Random(11)
        rows = [row for row in ROWS if len(row) < 3]
        sizes = set()
        for _ in range(1500):
            one, other = PROGRAMS[source.randrange(176)], PROGRAMS[source.randrange(176)]
            told = [len(row) for row in rows if samples.made(one, row) != samples.made(other, row)]
            if told:
                self.assert_shortest(one, other, min(told))
                sizes.add(min(told))
            else:
                self.assertIsNone(difference(one, other))
        self.assertEqual(sizes, {0, 1, 2})

    def test_twenty_four_words(self):
        words = samples.LETTER_WORDS[:24]
        one = [("lift", word) for word in words[:12]]
        other = [("sink", word) for word in words[12:]]
        self.assert_shortest(one, other, 2)
        self.assert_shortest(one, one + [("lift", "k")], 2)
        self.assert_shortest([("addfront", word) for word in words[:12]], [("addback", word) for word in words[12:]], 0)
        self.assert_shortest([("addfront", word) for word in words[:12]], [("addfront", word) for word in words[:12]]
                             + [("lift", "a"), ("addback", "b"), ("lift", "b")], 0)

    def test_needs_a_word_of_neither_program(self):
        for word in samples.LETTERS:
            self.assert_shortest([("addfront", word)], [("addback", word)], 1)
            self.assert_shortest([("lift", word)], [], 2)


class Joined(unittest.TestCase):
    def test_some(self):
        nothing = ((), (), ())
        one = ((("x", "present"),), (), ())
        other = ((("x", "absent"),), (), ())
        self.assertEqual(joined(nothing, nothing), nothing)
        self.assertEqual(joined(one, nothing), one)
        self.assertEqual(joined(nothing, one), one)
        self.assertEqual(joined(one, other), ((("x", "always"),), (), ()))
        self.assertEqual(joined(other, one), ((("x", "always"),), (), ()))
        self.assertEqual(joined(((), (), ("x",)), one), ((), (), ("x",)))
        self.assertEqual(joined(((), (), ("x",)), other), ((("x", "always"),), (), ()))
        self.assertEqual(joined(((), (), ("y",)), ((), (), ("x",))), ((), (), ("x", "y")))
        self.assertEqual(joined(((("x", "always"), ("y", "always")), (), ()), ((("y", "present"),), (), ())),
                         ((("y", "always"), ("x", "always")), (), ()))

    def test_all_pairs(self):
        meanings = {results: meaning(program) for program, results in zip(PROGRAMS, RESULTS)}
        at = {results: number for number, results in enumerate(RESULTS)}
        triples = [meanings[results] for results in RESULTS]
        source = random.Random(12)
        for _ in range(4000):
            one, other = source.randrange(176), source.randrange(176)
            made = tuple(samples.made(PROGRAMS[other], row) for row in RESULTS[one])
            self.assertEqual(joined(triples[one], triples[other]), triples[at[made]])

    def test_twelve_and_thirteen_words(self):
        def lifted(words):
            return (tuple((word, "present") for word in words), (), ())

        def gone(words):
            return ((), (), tuple(words))

        letters = samples.LETTERS
        for make in (lifted, gone):
            for other in (lifted, gone):
                self.assertIs(is_meaning(joined(make(letters[:7]), other(letters[7:12]))), True)
                self.assertIs(is_meaning(joined(make(letters[:12]), other(letters[:12]))), True)
                self.assertIs(is_meaning(joined(make(letters[:12]), other(""))), True)
                self.assertIs(is_meaning(joined(make(""), other(letters[:12]))), True)
                self.assertIs(is_meaning(joined(make(letters[:10]), other(letters[5:12]))), True)
                for one, two in [(letters[:7], letters[7:13]), (letters[:12], letters[12]), (letters[12], letters[:12]),
                                 (letters[:12], letters[1:13]), (letters[:12], letters[12:24])]:
                    with self.assertRaises(TooLarge):
                        joined(make(one), other(two))

    def test_words_in_back_count(self):
        sunk = ((), tuple((word, "absent") for word in samples.TWELVE), ())
        with self.assertRaises(TooLarge):
            joined(sunk, ((), (("z", "present"),), ()))
        with self.assertRaises(TooLarge):
            joined(((), (("z", "present"),), ()), sunk)

    def test_large(self):
        source = random.Random(13)
        for _ in range(150):
            one = samples.random_program(source, samples.TWELVE, source.randint(0, 60))
            other = samples.random_program(source, samples.TWELVE, source.randint(0, 60))
            triple = joined(meaning(one), meaning(other))
            self.assertIs(is_meaning(triple), True)
            for _ in range(5):
                row = samples.random_row(source, samples.LETTER_WORDS)
                self.assertEqual(samples.stands_for(triple, row), samples.made(one + other, row))


class Settles(unittest.TestCase):
    def test_example(self):
        self.assertEqual([settles([]), settles([("front", "x")]), settles([("front", "y"), ("addfront", "x")])],
                         [0, 1, 2])

    def test_returns_an_integer(self):
        for program in ([], [("front", "x")], [("front", "y"), ("addfront", "x")]):
            self.assertIs(type(settles(program)), int)

    def test_one_operation(self):
        for verb in samples.VERBS:
            self.assertEqual(settles([(verb, "x")]), 1)

    def test_all_programs(self):
        found = set()
        for program in PROGRAMS:
            expected = min(k for k in range(4) if same(program * (k + 1), program * k))
            self.assertEqual(settles(program), expected)
            found.add(expected)
        self.assertEqual(found, {0, 1, 2})

    def test_zero_only_for_the_empty_program(self):
        self.assertEqual([program for program in PROGRAMS if settles(program) == 0], [[]])

    def test_at_most_one(self):
        for program in PROGRAMS:
            front, back, _ = meaning(program)
            words = [word for word, case in front + back]
            ordered = all(
                not (one[1] == "absent" and other[1] != "absent")
                for part in (front, back[::-1]) for one, other in itertools.combinations(part, 2)
            )
            self.assertEqual(settles(program) <= 1, len(set(words)) == len(words) and ordered)

    def test_more_than_sixty_operations(self):
        program = [(verb, word) for verb in ("lift", "addback", "addfront", "sink", "addback")
                   for word in samples.TWELVE]
        self.assertEqual(len(program), 60)
        self.assertIn(settles(program), (1, 2))
        row = samples.TWELVE[3:9] + ("z",)
        self.assertEqual(samples.made(program * 3, row), samples.made(program * 2, row))
        self.assertEqual(settles([("drop", word) for word in samples.TWELVE] * 5), 1)
        self.assertEqual(settles([("front", "y"), ("addfront", "x")] + [("front", "y")] * 57 + [("addfront", "z")]), 2)


class ForgetsAndCommute(unittest.TestCase):
    def test_forgets(self):
        self.assertIs(forgets([], []), True)
        self.assertIs(forgets([("drop", "x")], [("front", "x")]), True)
        self.assertIs(forgets([("front", "x")], [("drop", "x")]), True)
        self.assertIs(forgets([("lift", "x")], [("drop", "x")]), False)
        self.assertIs(forgets([], [("front", "x")]), False)
        self.assertIs(forgets([("front", "x")], []), True)
        self.assertIs(forgets([("front", "x")], [("addback", "y")]), False)
        self.assertIs(forgets([("front", "x")], [("addfront", "x"), ("lift", "x")]), True)

    def test_forgets_depends_on_the_order(self):
        self.assertIs(forgets([("drop", "x")], [("lift", "x")]), True)
        self.assertIs(forgets([("lift", "x")], [("drop", "x")]), False)

    def test_commute(self):
        self.assertIs(commute([], []), True)
        self.assertIs(commute([], [("front", "x")]), True)
        self.assertIs(commute([("front", "x")], [("back", "y")]), True)
        self.assertIs(commute([("front", "x")], [("front", "y")]), False)
        self.assertIs(commute([("front", "x")], [("back", "x")]), False)
        self.assertIs(commute([("drop", "x")], [("drop", "y")]), True)
        self.assertIs(commute([("lift", "x")], [("addfront", "x")]), True)

    def test_pairs(self):
        source = random.Random(14)
        forgot, exchanged = set(), set()
        for _ in range(1500):
            one, other = PROGRAMS[source.randrange(176)], PROGRAMS[source.randrange(176)]
            expected = same(other + one, one)
            self.assertIs(forgets(one, other), expected)
            forgot.add(expected)
            expected = same(one + other, other + one)
            self.assertIs(commute(one, other), expected)
            exchanged.add(expected)
        self.assertEqual([forgot, exchanged], [{True, False}] * 2)

    def test_together_beyond_the_bounds(self):
        words = samples.LETTER_WORDS[:24]
        one = [("drop", word) for word in words[:12]] * 5
        other = [("drop", word) for word in words[12:]] * 5
        self.assertIs(commute(one, other), True)
        self.assertIs(forgets(one, other), False)
        self.assertIs(forgets(one, one), True)
        fronts = [("front", word) for word in words[:12]] * 5
        backs = [("back", word) for word in words[12:]] * 5
        self.assertIs(commute(fronts, backs), True)
        self.assertIs(commute(fronts, [("front", "z")]), False)
        self.assertIs(forgets(fronts, one), True)
        self.assertIs(forgets(one, fronts), True)
        self.assertIs(forgets(fronts, backs), False)
        self.assertIs(forgets(fronts, [("back", "z")]), False)

    def test_what_repeats(self):
        source = random.Random(15)
        for _ in range(300):
            program = samples.random_program(source, ("x", "y"), source.randint(0, 5))
            other = [operation for operation in program if source.randrange(2)]
            source.shuffle(other)
            self.assertIs(agree(program + other + program, program + program), True)

    def test_without_adding(self):
        source = random.Random(16)
        for _ in range(300):
            size = source.randint(0, 5)
            program = [(source.choice(("front", "back", "drop", "lift", "sink")), source.choice("xyz"))
                       for _ in range(size)]
            other = samples.random_program(source, ("x", "y", "z"), source.randint(0, 5))
            self.assertIs(agree(program + other + program, other + program), True)


if __name__ == "__main__":
    unittest.main()

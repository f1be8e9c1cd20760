"""Point 11: shortest programs, their number and their order, and operations that can be left out."""

import itertools
import math
import random
import unittest

from frontback.meanings import agree, meaning
from frontback.rows import is_program
from frontback.shortest import all_shortest, idle, orders, shortest
from tests import samples

EXAMPLE = ((("y", "always"), ("x", "present")), (("x", "absent"),), ("z",))
SEARCHED = samples.all_shortest_programs(("x", "y"))
ROWS = samples.ROWS
TWELVE = samples.TWELVE


def first(triple, many):
    """The list of so many first programs."""
    return list(itertools.islice(all_shortest(triple), many))


def always(words):
    """Entries that always put the words there."""
    return tuple((word, "always") for word in words)


def lists_of(triple):
    """The operations that the document names for front, back and dropped, each list in the order of making."""
    front, back, dropped = triple
    verbs = {"always": "front", "present": "lift", "absent": "addfront"}
    others = {"always": "back", "present": "sink", "absent": "addback"}
    return [
        [(verbs[case], word) for word, case in front[::-1]], [(others[case], word) for word, case in back],
        [("drop", word) for word in dropped],
    ]


def arrangements(triple):
    """All orders of the operations of a meaning in which they have it, found by trying all, in ascending order."""
    operations = [operation for part in lists_of(triple) for operation in part]
    words = sorted({word for verb, word in operations})
    rows = samples.short_rows(words)
    expected = [samples.stands_for(triple, row) for row in rows]
    return sorted(
        list(program) for program in itertools.permutations(operations)
        if all(samples.made(program, row) == other for row, other in zip(rows, expected))
    )


class Example(unittest.TestCase):
    def test_example(self):
        self.assertEqual(
            [len(shortest(EXAMPLE)), orders(EXAMPLE), list(all_shortest(EXAMPLE))[0]],
            [4, 8, [("drop", "z"), ("lift", "x"), ("addback", "x"), ("front", "y")]],
        )
        self.assertEqual(idle([("lift", "x"), ("front", "x"), ("addback", "x"), ("drop", "y")]), [0, 2])

    def test_all_of_the_example(self):
        self.assertEqual(list(all_shortest(EXAMPLE)), arrangements(EXAMPLE))


class AgainstSearch(unittest.TestCase):
    def test_numbers_of_meanings(self):
        self.assertEqual(len(samples.all_shortest_programs(())), 1)
        self.assertEqual(len(samples.all_shortest_programs(("x",))), 10)
        self.assertEqual(len(SEARCHED), 176)

    def test_one_word(self):
        for programs in samples.all_shortest_programs(("x",)).values():
            self.assert_found(programs)

    def test_two_words(self):
        for programs in SEARCHED.values():
            self.assert_found(programs)

    def test_three_words(self):
        words = ("x", "y", "z")
        searched = samples.all_shortest_programs(words, samples.short_rows(words))
        self.assertEqual(len(searched), 5360)
        for programs in searched.values():
            self.assert_found(programs)

    def assert_found(self, programs):
        triple = meaning(programs[0])
        with self.subTest(triple):
            self.assertEqual(list(all_shortest(triple)), sorted(programs))
            self.assertEqual(orders(triple), len(programs))
            self.assertIn(shortest(triple), programs)

    def test_lengths(self):
        for programs in SEARCHED.values():
            for program in programs:
                front, back, dropped = meaning(program)
                self.assertEqual(len(program), len(front) + len(back) + len(dropped))

    def test_more_words(self):
        source = random.Random(21)
        wanted = {3: 10, 4: 10, 5: 10, 6: 4}
        while any(wanted.values()):
            words = ("x", "y", "z", "xx")[:source.randint(2, 4)]
            triple = meaning(samples.random_program(source, words, source.randint(3, 14)))
            size = sum(len(part) for part in triple)
            if wanted.get(size):
                wanted[size] -= 1
                expected = arrangements(triple)
                self.assertEqual(list(all_shortest(triple)), expected)
                self.assertEqual(orders(triple), len(expected))
                self.assertIn(shortest(triple), expected)


class Shortest(unittest.TestCase):
    def assert_shortest(self, triple):
        program = shortest(triple)
        self.assertIs(is_program(program), True)
        self.assertEqual(meaning(program), triple)
        self.assertEqual(len(program), sum(len(part) for part in triple))
        self.assertEqual(sorted(program), sorted(operation for part in lists_of(triple) for operation in part))

    def test_empty(self):
        self.assertEqual(shortest(((), (), ())), [])
        self.assertEqual(orders(((), (), ())), 1)
        self.assertEqual(list(all_shortest(((), (), ()))), [[]])

    def test_one_operation(self):
        verbs = [("front", 0, "always"), ("lift", 0, "present"), ("addfront", 0, "absent"),
                 ("back", 1, "always"), ("sink", 1, "present"), ("addback", 1, "absent")]
        for verb, side, case in verbs:
            entries = ((("word", case),), ())
            triple = (entries[side], entries[1 - side], ())
            self.assertEqual(shortest(triple), [(verb, "word")])
            self.assertEqual(orders(triple), 1)
            self.assertEqual(list(all_shortest(triple)), [[(verb, "word")]])
        self.assertEqual(list(all_shortest(((), (), ("word",)))), [[("drop", "word")]])

    def test_present_before_absent(self):
        pairs = [
            (((("x", "present"),), (("x", "absent"),), ()), [("lift", "x"), ("addback", "x")]),
            (((("x", "absent"),), (("x", "present"),), ()), [("sink", "x"), ("addfront", "x")]),
            (((("x", "absent"), ("y", "always"), ("x", "present")), (), ()),
             [("lift", "x"), ("front", "y"), ("addfront", "x")]),
            (((), (("x", "present"), ("y", "always"), ("x", "absent")), ()),
             [("sink", "x"), ("back", "y"), ("addback", "x")]),
        ]
        for triple, program in pairs:
            self.assertEqual(shortest(triple), program)
            self.assertEqual(orders(triple), 1)
            self.assertEqual(list(all_shortest(triple)), [program])

    def test_only_the_entries_of_one_word_wait_for_each_other(self):
        triple = ((("x", "present"),), (("y", "absent"),), ())
        expected = [[("addback", "y"), ("lift", "x")], [("lift", "x"), ("addback", "y")]]
        self.assertEqual(list(all_shortest(triple)), expected)
        triple = ((("x", "absent"),), (("y", "present"),), ())
        expected = [[("addfront", "x"), ("sink", "y")], [("sink", "y"), ("addfront", "x")]]
        self.assertEqual(list(all_shortest(triple)), expected)

    def test_good_meanings(self):
        for triple in samples.GOOD_MEANINGS:
            self.assert_shortest(triple)

    def test_large_meanings(self):
        source = random.Random(22)
        for _ in range(200):
            program = samples.random_program(source, TWELVE, source.randint(0, 60))
            triple = meaning(program)
            self.assert_shortest(triple)
            self.assertIs(agree(program, shortest(triple)), True)
            self.assertLessEqual(len(shortest(triple)), len(program))


class Orders(unittest.TestCase):
    def test_one_side(self):
        for size in range(13):
            entries = always(TWELVE[:size])
            self.assertEqual(orders((entries, (), ())), 1)
            self.assertEqual(orders(((), entries, ())), 1)
            self.assertEqual(orders(((), (), TWELVE[:size])), math.factorial(size))

    def test_both_sides(self):
        for size in range(13):
            triple = (always(TWELVE[:size]), always(TWELVE[size:]), ())
            self.assertEqual(orders(triple), math.comb(12, size))

    def test_entries_and_dropped_words(self):
        for size in range(13):
            triple = (always(TWELVE[:size]), (), TWELVE[size:])
            self.assertEqual(orders(triple), math.factorial(12) // math.factorial(size))
        triple = (always("xyz"), always("uvw"), ("a", "b", "c"))
        self.assertEqual(orders(triple), 20 * 7 * 8 * 9)

    def test_both_entries_of_each_word(self):
        # The entry that waits comes after its own one: the ways are counted by the Catalan numbers.
        for size in range(13):
            words = TWELVE[:size]
            lifted = tuple((word, "present") for word in words[::-1])
            added = tuple((word, "absent") for word in words)
            number = math.comb(2 * size, size) // (size + 1)
            self.assertEqual(orders((lifted, added, ())), number)
            self.assertEqual(orders((added[::-1], lifted[::-1], ())), number)
            if size < 12:
                self.assertEqual(orders((lifted, added, ("z",))), number * (2 * size + 1))

    def test_returns_an_integer(self):
        for triple in samples.GOOD_MEANINGS:
            self.assertIs(type(orders(triple)), int)
            self.assertGreaterEqual(orders(triple), 1)


class AllShortest(unittest.TestCase):
    def test_is_an_iterator(self):
        found = all_shortest(EXAMPLE)
        self.assertIs(iter(found), found)
        self.assertEqual(next(found), list(all_shortest(EXAMPLE))[0])
        self.assertEqual(len(list(found)), 7)
        self.assertEqual(list(found), [])

    def test_first_thousand_of_dropped_words(self):
        expected = itertools.islice(itertools.permutations([("drop", word) for word in TWELVE]), 1000)
        self.assertEqual(first(((), (), TWELVE), 1000), [list(program) for program in expected])

    def test_first_thousand_of_entries(self):
        triple = (always(TWELVE[:6]), always(TWELVE[6:]), ())
        fronts, backs, _ = lists_of(triple)
        expected = []
        for places in itertools.combinations(range(12), 6):
            later, other = iter(fronts), iter(backs)
            expected.append([next(later) if at in places else next(other) for at in range(12)])
        self.assertEqual(first(triple, 1000), sorted(expected))

    def test_first_thousand_of_large_meanings(self):
        source = random.Random(23)
        for _ in range(15):
            triple = meaning(samples.random_program(source, TWELVE, 60))
            programs = first(triple, 1000)
            self.assertEqual(len(programs), min(1000, orders(triple)))
            self.assertEqual(programs, sorted(programs))
            self.assertEqual(len({tuple(program) for program in programs}), len(programs))
            for program in programs[::50]:
                self.assertEqual(meaning(program), triple)
            self.assertIs(type(programs[0]), list)

    def test_no_program_is_left_out_among_the_first(self):
        # The first thousand have nothing smaller beside them: exchanging neighbours gives none before the last one.
        triple = (always("dcb"), always("uvw"), ("a", "e", "f", "x", "y", "z"))
        programs = first(triple, 1000)
        known = {tuple(program) for program in programs}
        for program in programs:
            for at in range(11):
                other = program[:at] + [program[at + 1], program[at]] + program[at + 2:]
                if other < programs[-1] and meaning(other) == triple:
                    self.assertIn(tuple(other), known)

    def test_words_before_verbs_do_not_count(self):
        triple = ((("a", "always"),), (("z", "always"),), ("m",))
        self.assertEqual(first(triple, 9), [
            [("back", "z"), ("drop", "m"), ("front", "a")],
            [("back", "z"), ("front", "a"), ("drop", "m")],
            [("drop", "m"), ("back", "z"), ("front", "a")],
            [("drop", "m"), ("front", "a"), ("back", "z")],
            [("front", "a"), ("back", "z"), ("drop", "m")],
            [("front", "a"), ("drop", "m"), ("back", "z")],
        ])


class Idle(unittest.TestCase):
    def assert_idle(self, program, words):
        rows = samples.short_rows(words)
        results = [samples.made(program, row) for row in rows]
        expected = []
        for at in range(len(program)):
            rest = program[:at] + program[at + 1:]
            same = all(samples.made(rest, row) == result for row, result in zip(rows, results))
            self.assertIs(agree(rest, program), same)
            if same:
                expected.append(at)
        self.assertEqual(idle(program), expected)
        self.assertIs(type(idle(program)), list)
        return len(expected)

    def test_some(self):
        self.assertEqual(idle([]), [])
        self.assertEqual(idle([("front", "x")]), [])
        self.assertEqual(idle([("lift", "x"), ("addfront", "x")]), [])
        self.assertEqual(idle([("front", "x"), ("front", "x")]), [0, 1])
        self.assertEqual(idle([("drop", "x"), ("addfront", "x")]), [])
        self.assertEqual(idle([("addfront", "x"), ("drop", "x")]), [0])
        self.assertEqual(idle([("front", "x"), ("addback", "x"), ("lift", "y")]), [1])

    def test_each_alone(self):
        # All three can be left out, but not together.
        program = [("drop", "x")] * 3
        self.assertEqual(idle(program), [0, 1, 2])

    def test_small_programs(self):
        source = random.Random(24)
        found = set()
        for _ in range(300):
            program = samples.random_program(source, ("x", "y", "z"), source.randint(0, 8))
            found.add(self.assert_idle(program, ("x", "y", "z")))
        self.assertLessEqual({0, 1, 2, 3, 4, 5}, found)

    def test_shortest_programs_have_none(self):
        for programs in SEARCHED.values():
            for program in programs:
                self.assertEqual(idle(program), [])

    def test_sixty_operations(self):
        self.assertEqual(idle([("front", "x")] * 60), list(range(60)))
        program = [("front", "x"), ("back", "y")] * 30
        self.assertEqual(idle(program), list(range(60)))
        program = [("front", "y"), ("addfront", "x")] + [("front", "y"), ("front", "z")] * 28 + [("drop", "y")] * 2
        self.assertEqual(idle(program), [0] + list(range(2, 60)))
        source = random.Random(25)
        words = TWELVE[:5]
        self.assertGreater(self.assert_idle(samples.random_program(source, words, 60), words), 20)

    def test_rest_agrees(self):
        source = random.Random(26)
        for _ in range(5):
            program = samples.random_program(source, TWELVE, 60)
            numbers = idle(program)
            for at in range(60):
                self.assertIs(agree(program[:at] + program[at + 1:], program), at in numbers)


if __name__ == "__main__":
    unittest.main()

"""Point 12: the distance of two rows, the shortest lists of operations between them, and their number."""

import itertools
import math
import random
import unittest

from frontback.rows import is_operation, is_program
from frontback.routes import distance, route, routes
from tests import samples

TWENTY = samples.LETTER_WORDS[:20]
OTHERS = tuple(word * 2 for word in TWENTY)
EXAMPLE = (("a", "b", "c", "d"), ("c", "a", "d", "e"))


def counted(words, longest):
    """For all pairs of rows of the words, at most so long, the least number of operations and the number of lists."""
    rows = samples.rows_of(words)
    operations = [(verb, word) for verb in samples.VERBS for word in words]
    after = {row: [samples.one_step(row, operation) for operation in operations] for row in rows}
    found = {}
    for start in rows:
        if len(start) > longest:
            continue
        lists = {start: 1}
        size = 0
        missing = {row for row in rows if len(row) <= longest}
        while missing:
            for row in sorted(missing & set(lists)):
                found[start, row] = (size, lists[row])
            missing -= set(lists)
            following = {}
            for row, number in lists.items():
                for other in after[row]:
                    following[other] = following.get(other, 0) + number
            lists = following
            size += 1
    return found


def by_longest_stretches(row, other):
    """The distance and the number of lists as the document tells them, by all stretches of all lengths."""
    stretches = [
        (start, end) for start in range(len(other) + 1) for end in range(start, len(other) + 1)
        if all(word in row for word in other[start:end])
        and sorted(other[start:end], key=row.index) == list(other[start:end])
    ]
    longest = max(end - start for start, end in stretches)
    gone = len(set(row) - set(other))
    total = 0
    for start, end in stretches:
        if end - start == longest:
            before, behind = start, len(other) - end
            number = math.factorial(before + behind + gone) * 2 ** (before + behind)
            total += number // (math.factorial(before) * math.factorial(behind))
    return (len(other) - longest + gone, total)


class Case(unittest.TestCase):
    def assert_route(self, row, other, size, number):
        with self.subTest([row, other]):
            self.assertEqual(distance(row, other), size)
            self.assertEqual(routes(row, other), number)
            self.assertEqual([type(distance(row, other)), type(routes(row, other))], [int, int])
            found = route(row, other)
            self.assertIs(type(found), list)
            self.assertEqual(len(found), size)
            self.assertTrue(all(is_operation(operation) for operation in found))
            self.assertEqual(samples.made(found, row), other)


class Routes(Case):
    def test_example(self):
        self.assertEqual([distance(*EXAMPLE), routes(*EXAMPLE), distance((), ("a",))], [3, 24, 1])
        self.assertEqual([len(route(*EXAMPLE)), routes((), ("a", "b"))], [3, 16])
        self.assert_route(*EXAMPLE, 3, 24)

    def test_empty_rows(self):
        self.assert_route((), (), 0, 1)
        self.assert_route((), ("a",), 1, 4)
        self.assert_route((), ("a", "b"), 2, 16)
        self.assert_route(("a",), (), 1, 1)
        self.assert_route(("a", "b", "c"), (), 3, 6)

    def test_equal_rows(self):
        for size in range(21):
            self.assert_route(TWENTY[:size], TWENTY[:size], 0, 1)
            self.assertEqual(route(TWENTY[:size], TWENTY[:size]), [])

    def test_one_word(self):
        self.assert_route(("a",), ("b",), 2, 8)
        self.assert_route(("a", "b"), ("b",), 1, 1)
        self.assert_route(("a",), ("b", "a"), 1, 2)
        self.assert_route(("a",), ("a", "b"), 1, 2)

    def test_stretch_is_not_direct_in_row(self):
        self.assert_route(("a", "x", "b", "y", "c"), ("a", "b", "c"), 2, 2)
        self.assert_route(("a", "x", "b"), ("a", "b", "x"), 1, 2)

    def test_stretch_is_direct_in_other(self):
        self.assert_route(("a", "b"), ("a", "x", "b"), 2, 4 + 4)
        self.assert_route(("a", "b", "c", "d"), ("a", "b", "x", "c", "d"), 3, 2 * 8)

    def test_longest_stretch_at_several_places(self):
        self.assert_route(("a", "b"), ("b", "a"), 1, 4)
        self.assert_route(("a", "b", "c"), ("c", "b", "a"), 2, 4 + 8 + 4)
        self.assert_route(("a", "b", "c", "d"), ("c", "d", "a", "b"), 2, 8)
        self.assert_route(("a", "b", "c", "d", "e"), ("c", "d", "a", "b"), 3, 12 * 2)

    def test_all_pairs_of_short_rows(self):
        found = counted(("a", "b", "c", "d"), 3)
        self.assertEqual(len(found), 41 * 41)
        for (row, other), (size, number) in found.items():
            self.assert_route(row, other, size, number)
            self.assertEqual(by_longest_stretches(row, other), (size, number))

    def test_some_pairs_of_longer_rows(self):
        found = counted(("a", "b", "c", "d"), 4)
        for (row, other), (size, number) in found.items():
            if len(row) == 4 or len(other) == 4:
                self.assertEqual((distance(row, other), routes(row, other)), (size, number))

    def test_random_rows(self):
        source = random.Random(31)
        words = samples.LETTER_WORDS[:24]
        for _ in range(300):
            row = samples.random_row(source, words[:source.randint(1, 24)])
            other = samples.random_row(source, words[:source.randint(1, 24)])
            if source.randrange(2):
                other = samples.made(samples.random_program(source, words[:20], source.randint(0, 8)), row)[:20]
            self.assert_route(row, other, *by_longest_stretches(row, other))


class LargestRows(Case):
    def test_nothing_in_common(self):
        self.assert_route(TWENTY, OTHERS, 40, 2 ** 40 * math.factorial(40) // math.factorial(20))
        places = [math.factorial(40) // (math.factorial(a) * math.factorial(20 - a)) for a in range(21)]
        self.assertEqual(routes(TWENTY, OTHERS), sum(places) * 2 ** 20)

    def test_more_than_twelve_words(self):
        found = route(TWENTY, OTHERS)
        self.assertEqual(len({word for verb, word in found}), 40)
        self.assertIs(is_program(found), False)
        self.assertIs(is_program(route(TWENTY[:12], TWENTY[:12][::-1])), True)

    def test_from_and_to_the_empty_row(self):
        self.assert_route((), TWENTY, 20, 2 ** 40)
        self.assert_route(TWENTY, (), 20, math.factorial(20))

    def test_other_way_round(self):
        self.assert_route(TWENTY, TWENTY[::-1], 19, sum(math.comb(19, a) for a in range(20)) * 2 ** 19)

    def test_one_word_is_moved(self):
        self.assert_route(TWENTY, TWENTY[1:] + TWENTY[:1], 1, 2)
        self.assert_route(TWENTY, TWENTY[-1:] + TWENTY[:-1], 1, 2)
        self.assert_route(TWENTY, TWENTY[10:] + TWENTY[:10], 10, 2 ** 11)

    def test_every_second_word(self):
        mixed = tuple(itertools.chain(*zip(TWENTY[:10], OTHERS[:10])))
        self.assert_route(TWENTY[:10], mixed, 19, sum(math.comb(19, 2 * a) for a in range(10)) * 2 ** 19)
        self.assert_route(mixed, TWENTY[:10], 10, math.factorial(10))


class Bounds(unittest.TestCase):
    def test_no_program_leads_further(self):
        source = random.Random(32)
        for _ in range(500):
            row = samples.random_row(source, samples.LETTER_WORDS[:7])
            program = samples.random_program(source, samples.LETTER_WORDS[:9], source.randint(0, 6))
            other = samples.made(program, row)
            self.assertLessEqual(distance(row, other), len(program))
            self.assertGreaterEqual(routes(row, other), 1)


if __name__ == "__main__":
    unittest.main()

"""Points 4, 5 and 10 to 18 together: exchanged words, exchanged ends, words left away, and programs that agree."""

import random
import unittest

from frontback.backwards import always_before, sources, sure
from frontback.editor import Editor
from frontback.meanings import agree, meaning
from frontback.probes import learned, probes
from frontback.programs import Program, ShortProgram
from frontback.routes import distance, routes
from frontback.rows import run
from frontback.shortest import all_shortest, idle, orders, shortest
from frontback.texts import read, write
from tests import samples

WORDS = ("a", "b", "c", "d", "e")
NAMES = {"a": "zz", "b": "b", "c": "front", "d": "a", "e": "always", "left": "left", "right": "right"}
ENDS = {"front": "back", "back": "front", "addfront": "addback", "addback": "addfront", "lift": "sink", "sink": "lift",
        "drop": "drop"}


def renamed(program):
    """The program with other words."""
    return [(verb, NAMES[word]) for verb, word in program]


def turned(program):
    """The program with front and back exchanged."""
    return [(ENDS[verb], word) for verb, word in program]


def turned_meaning(triple):
    """The meaning with front and back exchanged."""
    return (triple[1][::-1], triple[0][::-1], triple[2])


class Exchanges(unittest.TestCase):
    def setUp(self):
        source = random.Random(51)
        self.source = source
        self.programs = [samples.random_program(source, WORDS, source.randint(0, 14)) for _ in range(60)]
        self.rows = [samples.random_row(source, WORDS) for _ in range(60)]

    def test_words(self):
        for program in self.programs:
            front, back, dropped = meaning(program)
            other = tuple(tuple((NAMES[word], case) for word, case in part) for part in (front, back))
            other = other + (tuple(sorted(NAMES[word] for word in dropped)),)
            self.assertEqual(meaning(renamed(program)), other)
            self.assertEqual(orders(other), orders(meaning(program)))
            self.assertEqual(idle(renamed(program)), idle(program))
            if orders(other) < 100:
                self.assertEqual(sorted(renamed(found) for found in all_shortest(meaning(program))),
                                 list(all_shortest(other)))

    def test_ends(self):
        for program in self.programs:
            triple = meaning(program)
            self.assertEqual(meaning(turned(program)), turned_meaning(triple))
            self.assertEqual(orders(turned_meaning(triple)), orders(triple))
            self.assertEqual(idle(turned(program)), idle(program))
            self.assertEqual(meaning(turned(shortest(triple))), turned_meaning(triple))
            for row in self.rows[:10]:
                self.assertEqual(run(turned(program), row[::-1]), run(program, row)[::-1])
            if orders(triple) < 100:
                self.assertEqual(sorted(turned(found) for found in all_shortest(triple)),
                                 list(all_shortest(turned_meaning(triple))))

    def test_words_left_away(self):
        for program in self.programs:
            rest = [operation for operation in program if operation[1] != "a"]
            for row in self.rows[:10]:
                made = tuple(word for word in run(program, row) if word != "a")
                self.assertEqual(run(rest, tuple(word for word in row if word != "a")), made)
            short = [operation for operation in shortest(meaning(program)) if operation[1] != "a"]
            self.assertIs(agree(short, rest), True)
            self.assertLessEqual(len(shortest(meaning(rest))), len(short))

    def test_rows(self):
        for row, other in zip(self.rows, self.rows[1:]):
            expected = [distance(row, other), routes(row, other)]
            self.assertEqual([distance(row[::-1], other[::-1]), routes(row[::-1], other[::-1])], expected)
            one, two = [tuple(NAMES[word] for word in words) for words in (row, other)]
            self.assertEqual([distance(one, two), routes(one, two)], expected)

    def test_backwards(self):
        names = tuple(NAMES[word] for word in WORDS)
        for program, row in zip(self.programs, self.rows):
            made = run(program, row)
            number = sources(program, made, WORDS)
            self.assertGreaterEqual(number, 1)
            self.assertEqual(sources(turned(program), made[::-1], WORDS), number)
            self.assertEqual(sources(renamed(program), tuple(NAMES[word] for word in made), names), number)
            self.assertEqual(sources(shortest(meaning(program)), made, WORDS[::-1]), number)
            self.assertEqual(sure(turned(program)), sure(program))
            self.assertEqual(sure(shortest(meaning(program))), sure(program))
            for word, other in [("a", "b"), ("b", "a"), ("c", "e")]:
                before = always_before(program, word, other)
                self.assertIs(always_before(turned(program), other, word), before)
                self.assertIs(always_before(renamed(program), NAMES[word], NAMES[other]), before)
                self.assertIs(always_before(shortest(meaning(program)), word, other), before)

    def test_objects_texts_and_editors(self):
        for program, row in zip(self.programs, self.rows):
            made = run(program, row)
            editor = Editor(row)
            self.assertEqual([Program(*program)(row), ShortProgram(*program)(row), editor.run(program)], [made] * 3)
            self.assertEqual(run(read(write(program)), row), made)
            self.assertEqual(Program(*read(write(editor.done))).operations, program)
            self.assertLessEqual(distance(row, made), len(ShortProgram(*program)))
            self.assertEqual(len(editor.short()), distance(row, made))
            self.assertEqual(run(editor.short(), row), made)
            for other in self.programs[:10]:
                self.assertIs(Program(*program) == ShortProgram(*other), agree(program, other))
                self.assertIs(Program(*program) == Program(*other), meaning(program) == meaning(other))

    def test_programs_that_agree(self):
        for program in self.programs:
            self.assertIs(agree(shortest(meaning(program)), program), True)
            rest = list(program)
            while idle(rest):
                rest.pop(self.source.choice(idle(rest)))
                self.assertIs(agree(rest, program), True)

    def test_learned_from_renamed_and_turned_probes(self):
        for program in self.programs:
            results = [run(renamed(program), row) for row in probes(tuple(NAMES[word] for word in WORDS))]
            found = learned(tuple(NAMES[word] for word in WORDS), results)
            self.assertEqual(meaning(found), meaning(renamed(program)))
            results = [run(turned(program), row) for row in probes(WORDS)]
            self.assertEqual(meaning(learned(WORDS, results)), turned_meaning(meaning(program)))


if __name__ == "__main__":
    unittest.main()

"""Point 39: the shortest program with steps of a list."""

import unittest
from itertools import product
from random import Random

from allwordlengths.compare import alike
from allwordlengths.errors import BadNumber, BadStep, TooLarge, TooMany
from allwordlengths.programs import Program
from allwordlengths.shortest import shortest
from allwordlengths.tables import Table
from cases import LARGE, NO_INTEGERS, REWRITTEN, Case, K, is_refused
from plain import are_alike, expected_steps, odd_values, program_texts

STEPS = list(expected_steps())
SMALL = (1, 2, 3, 4, 5, 7, 9, 14, 19)


def plain_shortest(text, steps, most):
    """By trying: programs that do the same at some sizes are compared by their tables."""
    wanted = Table(Program(text))
    for many in range(most + 1):
        for parts in product(steps, repeat=many):
            other = " then ".join(parts)
            if other.count("deal") <= 2 and all(are_alike(text, other, k) for k in SMALL):
                if not is_refused(other) and Table(Program(other)) == wanted:
                    return other
    return None


class FoundTest(Case):
    def check(self, text, steps, most):
        given = list(steps)
        found = shortest(Program(text), given, most)
        self.assertEqual(given, list(steps))
        expected = plain_shortest(text, steps, most)
        if expected is None:
            self.assertIsNone(found, (text, steps, most))
        else:
            self.assertIs(type(found), Program)
            self.assertEqual(found.text, expected, (text, steps, most))
            self.assertIs(alike(found, Program(text)), True)
        return found

    def test_programs_of_the_steps_themselves(self):
        random = Random(171)
        for number in range(60):
            steps = random.sample(STEPS, random.randint(1, 6))
            most = random.randint(0, 3)
            parts = [random.choice(steps) for _ in range(random.randint(0, 4))]
            text = " then ".join(parts)
            if text.count("deal") <= 2 and not is_refused(text):
                self.check(text, steps if number % 2 else tuple(steps), most)

    def test_longer_programs_that_can_be_short(self):
        random = Random(172)
        for text in program_texts(173, 50, 2):
            step = random.choice(STEPS)
            parts = [*text.split(" then "), step, expected_steps()[step][3]]
            longer = " then ".join(parts if random.random() < 0.5 else parts[-2:] + parts[:-2])
            if longer.count("deal") <= 2 and not is_refused(longer):
                steps = [*{*parts[:-2], random.choice(STEPS), random.choice(STEPS)}]
                found = self.check(longer, steps, 2)
                self.assertIsNotNone(found, longer)

    def test_steps_that_rewrite_each_other(self):
        steps = ["turn", "roll 1", "roll -1", "swap", "near 1", "near 2"]
        for text in ("roll -2", "turn then roll 1", "near 2 then near 1", "roll 1 then turn then roll 1", "sum 1", "near -1",
                     "turn then near 1 then turn", "near 1 then near 1 then roll 1", "swap then turn then swap"):
            for most in range(4):
                self.check(text, steps, most)
                self.check(text, steps[::-1], most)
        for one, other in REWRITTEN:
            steps = [*{*one.split(" then "), *other.split(" then ")} - {""}]
            if 0 < len(steps) <= 6:
                self.check(one, steps, 3)
                self.check(other, steps, 3)

    def test_ties(self):
        for steps, text in ((["roll 1", "roll 2"], "roll 1 then roll 2"), (["roll 2", "roll 1"], "roll 2 then roll 1"),
                            (["near 2", "near 1", "sum 3"], "near 2 then near 1"), (["sum 3", "near 1", "near 2"], "near 1 then near 2"),
                            (["swap", "roll 2", "roll 1"], "roll 2 then roll 1")):
            program = "roll 3" if "roll 1" in steps else "near 1 then near 2"
            self.assertEqual(self.check(program, steps, 3).text, text)

    def test_a_text_twice(self):
        for steps in (["turn", "turn", "roll 1"], ["roll 1", "turn", "roll 1"], ["turn", "roll 1", "turn", "turn", "roll 1", "roll 1"]):
            self.assertEqual(self.check("roll -1", steps, 3).text, "turn then roll 1 then turn")
            self.assertIsNone(self.check("roll -1", steps, 2))
        self.assertEqual(self.check("turn", ["turn", "turn"], 1).text, "turn")

    def test_no_steps(self):
        self.assertEqual(shortest(Program("turn then turn"), [], 3).text, "")
        self.assertEqual(shortest(Program(""), (), 0).text, "")
        self.assertIsNone(shortest(Program("turn"), [], 3))
        self.assertIsNone(shortest(Program("turn"), ["turn"], 0))

    def test_the_empty_program_comes_first(self):
        for text in ("", "turn then turn", "near 2 then sum 2", "flip 0 of 2 then flip 0 of 2", "deal then undeal"):
            for steps in (["turn"], ["near 1", "sum 1"], []):
                self.assertEqual(shortest(Program(text), steps, 3).text, "")

    def test_rows_that_are_no_programs(self):
        """A third deal would be needed."""
        self.assertIsNone(shortest(Program("undeal"), ["deal"], 3))
        self.assertEqual(shortest(Program("deal then deal"), ["deal"], 3).text, "deal then deal")
        self.assertIsNone(shortest(Program("deal then near 1"), ["deal", "undeal"], 3))

    def test_rows_that_are_refused(self):
        """Rows whose tables are refused do not count, and raise nothing."""
        steps = ["sum -3 at 2 of 3", "sum 3 at 2 of 3", "near -3 at 2 of 3"]
        self.assertTrue(is_refused(" then ".join(steps)))
        self.assertEqual(shortest(Program("sum 3 at 2 of 3"), steps, 3).text, "sum 3 at 2 of 3")
        self.assertTrue(is_refused("deal then sum 3 at 0 of 3"))
        for text in ("deal then near 1", "near 3 at 0 of 3", "turn"):
            self.check(text, ["sum 3 at 0 of 3", "deal", "undeal"], 3)

    def test_alike_at_small_sizes_alone(self):
        # Behind these each bit hangs on itself and the bit that is 12 places further, so up to size 12 nothing changes.
        many = Program("near 3 then near 3 then near 3 then near 3")
        self.assertIsNone(shortest(many, ["near 3"], 3))
        self.assertIsNone(shortest(many, ["near 1", "turn"], 2))
        self.assertIsNone(shortest(Program("near -3 then near -3"), ["near 3", "sum 3", "sum -3"], 1))
        self.assertEqual(shortest(Program("near -3 then near -3"), ["near 3", "near -3"], 3).text, "near -3 then near -3")
        self.assertIsNone(shortest(Program("flip 3 of 4 then near 3 then near 3"), ["near 3", "near 2"], 3))

    def test_what_is_told_is_new(self):
        program = Program("turn")
        found = shortest(program, ["turn"], 1)
        self.assertEqual(found, program)
        self.assertIsNot(found, shortest(program, ["turn"], 1))

    def test_examples(self):
        steps = ["near 1", "near 2", "near 3"]
        program = Program("near 1 then near 1 then near 1 then near 1")
        self.assertEqual(shortest(program, steps, 3).text, "near 2 then near 2")
        self.assertEqual(shortest(Program("roll -1"), ["turn", "roll 1"], 3).text, "turn then roll 1 then turn")
        self.assertIsNone(shortest(Program("roll -1"), ["turn", "roll 1"], 2))
        self.assertEqual(shortest(program=Program("turn then turn"), steps=["turn", "roll 1"], most=3).text, "")


class RefusedTest(Case):
    """What is refused, and in which order."""

    BAD_STEPS = [*odd_values(), 0, 1, "", "Turn", "roll 4", "roll", "near 1 at 2 of 2", "sum 1 at 0 of 2", "turn then turn", "turn "]
    BAD_MOSTS = [*NO_INTEGERS, -1, 4, K]

    def test_too_many(self):
        for program in (Program("turn"), Program(LARGE[0])):
            for steps in (["turn"] * 7, ("roll 1",) * 100, [None] * 7, ["turn"] * 6 + ["x"]):
                for most in (1, 4, None):
                    self.refused(TooMany, "most", 6, shortest, program, steps, most)

    def test_bad_steps(self):
        for program in (Program("turn"), Program(LARGE[0])):
            for value in self.BAD_STEPS:
                for index in (0, 2, 5):
                    steps = ["turn"] * index + [value] + [None] * (5 - index)
                    for most in (1, 4, None):
                        self.refused(BadStep, "index", index, shortest, program, steps, most)
                        self.refused(BadStep, "index", index, shortest, program, tuple(steps), most)

    def test_bad_numbers(self):
        for program in (Program("turn"), Program(LARGE[0])):
            for steps in ([], ["turn"], ["turn"] * 6):
                for value in self.BAD_MOSTS:
                    self.refused(BadNumber, "number", value, shortest, program, steps, value)

    def test_too_large(self):
        for text in LARGE:
            for steps in ([], ["turn"], text.split(" then ")):
                for most in (0, 3):
                    self.refused(TooLarge, "most", 60, shortest, Program(text), steps, most)


if __name__ == "__main__":
    unittest.main()

import unittest
from itertools import product
from unittest.mock import ANY

from allwordlengths.errors import BadBits, BadNumber, BadSize, BadStep, BadText, TooMany
from allwordlengths.programs import Program
from allwordlengths.steps import Step, all_steps
from plain import expected_result, expected_steps, odd_values, scattered, words_upto

EXPECTED = expected_steps()
PROGRAMS = [
    "", "turn", "deal", "near 1", "flip first then flip last", "turn then roll 1 then turn", "deal then near 1",
    "near 1 at 1 of 2 then spread", "undeal then undeal", "flip 0 of 3 then swap then roll -3 then deal",
    "sum 3 at 2 of 3 then gather then spread then near -2", "deal then turn then undeal then swap then roll 2",
    "sum 1 then sum 1 then sum 1 then sum 1 then sum 1", "gather then gather", "near 2 then sum 2 then near 2",
]
DEALS = ("deal", "undeal")


def written(parts):
    return " then ".join(parts)


def parts_of(text):
    return text.split(" then ") if text else []


def taken_out(parts, from_left):
    """What is left when pairs are taken out one by one, from either side."""
    parts = list(parts)
    while True:
        pairs = [at for at in range(len(parts) - 1) if EXPECTED[parts[at]][3] == parts[at + 1]]
        if not pairs:
            return parts
        at = pairs[0] if from_left else pairs[-1]
        del parts[at:at + 2]


class ProgramCase(unittest.TestCase):
    def refused(self, error, field, value, call, *args):
        with self.assertRaises(error) as caught:
            call(*args)
        self.assertIs(caught.exception.__class__, error)
        found = getattr(caught.exception, field)
        if type(value) is int:
            self.assertEqual((type(found), found), (int, value))
        else:
            self.assertIs(found, value)

    def outcome(self, parts):
        """What a program with these steps has to be: its text, or the bound that it breaks."""
        if len(parts) > 5:
            return 5
        if len([part for part in parts if part in DEALS]) > 2:
            return 2
        return written(parts)

    def same(self, parts, call, *args):
        """Compare what a call makes with the program that has these parts, or with the bound that they break."""
        outcome = self.outcome(parts)
        if isinstance(outcome, int):
            self.refused(TooMany, "most", outcome, call, *args)
        else:
            made = call(*args)
            self.assertIs(type(made), Program)
            self.assertEqual(made.text, outcome)
            self.assertEqual([step.text for step in made.steps], list(parts))


class TextTest(ProgramCase):
    """Points 5 and 6: reading a program."""

    def test_attributes(self):
        for text in [*PROGRAMS, *EXPECTED]:
            program = Program(text)
            self.assertEqual(sorted(vars(program)), ["steps", "text"])
            self.assertEqual(program.text, text)
            self.assertIs(type(program.steps), tuple)
            self.assertTrue(all(type(step) is Step for step in program.steps))
            self.assertEqual([step.text for step in program.steps], parts_of(text))
        self.assertEqual(Program(text="turn").text, "turn")

    def test_the_empty_text(self):
        program = Program("")
        self.assertEqual((program.text, program.steps, len(program), list(program)), ("", (), 0, []))

    def test_values_that_are_no_texts(self):
        for value in [*odd_values(), 0, 1, Step("turn"), Program("turn"), ["turn"]]:
            self.refused(BadText, "text", value, Program, value)

    def test_parts_that_are_no_steps(self):
        for text, index in (
                (" ", 0), ("then", 0), (" then ", 0), ("turn then", 0), ("turn then ", 1), (" then turn", 0),
                ("turn  then turn", 0), ("turn then  turn", 1), ("turn then turn ", 1), ("turn turn", 0),
                ("turn then then then turn", 1), ("turn\nthen turn", 0), ("turn Then turn", 0), ("turn,deal", 0),
                ("turn then roll 0", 1), ("turn then turn then flip 2 of 2 then x", 2), ("roll 4 then turn", 0),
                ("turn then sum 1 at 0 of 2", 1), ("turn then swap then turn then swap then TURN", 4)):
            self.refused(BadStep, "index", index, Program, text)

    def test_a_bad_part_comes_ahead_of_the_bounds(self):
        self.refused(BadStep, "index", 5, Program, written(["turn"] * 5 + ["x"]))
        self.refused(BadStep, "index", 9, Program, written(["deal"] * 9 + ["roll 0", "x"]))
        self.refused(BadStep, "index", 3, Program, written(["deal"] * 3 + [""]))

    def test_bounds(self):
        for many in range(9):
            self.same(["turn"] * many, Program, written(["turn"] * many))
            for deals in product(DEALS, repeat=min(many, 4)):
                parts = ["near 1"] * (many - len(deals)) + list(deals)
                self.same(parts, Program, written(parts))
                self.same(parts, Program.of, [Step(part) for part in parts])
        self.refused(TooMany, "most", 5, Program, written(["deal"] * 6))
        self.refused(TooMany, "most", 2, Program, written(["deal"] * 5))
        self.refused(TooMany, "most", 2, Program, "deal then turn then undeal then turn then deal")
        self.refused(TooMany, "most", 5, Program, written(["swap"] * 500))

    def test_equal_by_text(self):
        for text in PROGRAMS:
            for other in PROGRAMS:
                self.assertIs(Program(text) == Program(other), text == other)
                self.assertIs(Program(text) != Program(other), text != other)
        self.assertNotEqual(Program("turn then turn"), Program(""))

    def test_not_equal_to_other_kinds(self):
        for text in ("", "turn"):
            program = Program(text)
            for value in [*odd_values(), text, Step("turn"), program.steps, list(program), 0, 1, ANY]:
                self.assertIs(program == value, False)
                self.assertIs(program != value, True)


class OfTest(ProgramCase):
    """Point 6: Program.of."""

    def test_lists_and_tuples(self):
        for text in PROGRAMS:
            steps = [Step(part) for part in parts_of(text)]
            for given in (steps, tuple(steps)):
                program = Program.of(given)
                self.assertEqual(program, Program(text))
                self.assertEqual(vars(program), vars(Program(text)))
            self.assertEqual([step.text for step in steps], parts_of(text))

    def test_the_list_may_change_later(self):
        steps = [Step("turn")]
        program = Program.of(steps)
        steps.append(Step("swap"))
        self.assertEqual(program.steps, (Step("turn"),))
        self.assertEqual(len(program), 1)

    def test_members_that_are_no_steps(self):
        turn = Step("turn")
        for value in [*odd_values(), 0, "turn", Program("turn"), (turn,)]:
            for index in range(4):
                steps = [turn] * index + [value] + [turn] * (3 - index)
                self.refused(BadStep, "index", index, Program.of, steps)
                self.refused(BadStep, "index", index, Program.of, tuple(steps + ["x"]))

    def test_a_bad_member_comes_ahead_of_the_bounds(self):
        self.refused(BadStep, "index", 6, Program.of, [Step("deal")] * 6 + [None])
        self.refused(TooMany, "most", 5, Program.of, [Step("deal")] * 6)
        self.refused(TooMany, "most", 2, Program.of, [Step("deal")] * 3)


class AccessTest(ProgramCase):
    """Point 6: len, index, loops, beginning and rearranges."""

    def test_len(self):
        for text in PROGRAMS:
            self.assertEqual(len(Program(text)), len(parts_of(text)))

    def test_index(self):
        for text in PROGRAMS:
            program = Program(text)
            for at, part in enumerate(parts_of(text)):
                self.assertIs(type(program[at]), Step)
                self.assertEqual(program[at].text, part)

    def test_bad_index(self):
        for text in PROGRAMS:
            program = Program(text)
            many = len(program)
            for value in [*odd_values(), -1, -many, many, many + 1, 10 ** 30, "0", "", Step("turn"), slice(None)]:
                if value.__class__ is int and 0 <= value < many:
                    continue
                self.refused(BadNumber, "number", value, lambda: program[value])

    def test_loop(self):
        for text in PROGRAMS:
            program = Program(text)
            for _ in range(2):
                self.assertEqual([step.text for step in program], parts_of(text))
            self.assertEqual(tuple(program), program.steps)
            self.assertEqual([(a.text, b.text) for a in program for b in program],
                             list(product(parts_of(text), repeat=2)))

    def test_beginning(self):
        for text in PROGRAMS:
            program = Program(text)
            for many in range(len(program) + 1):
                self.same(parts_of(text)[:many], program.beginning, many)
            self.assertEqual(program.text, text)
            for value in [*odd_values(), -1, len(program) + 1, 10 ** 30, "1", ""]:
                self.refused(BadNumber, "number", value, program.beginning, value)

    def test_rearranges(self):
        others = ("near", "sum", "gather", "spread")
        for text, (kind, _, _, _) in EXPECTED.items():
            self.assertIs(Program(text).rearranges, kind not in others)
            self.assertIs(Program(written(["turn", text, "flip last"])).rearranges, kind not in others)
        for text in PROGRAMS:
            kinds = [EXPECTED[part][0] for part in parts_of(text)]
            self.assertIs(Program(text).rearranges, not any(kind in others for kind in kinds))
        self.assertIs(Program("").rearranges, True)


class DoneTest(ProgramCase):
    """Points 5, 6 and 9: what programs do."""

    def expected_trace(self, text, word):
        words = [tuple(word)]
        for part in parts_of(text):
            kind, by, rest, _ = EXPECTED[part]
            words.append(expected_result(kind, by, rest, words[-1]))
        return tuple(words)

    def test_done_and_trace(self):
        words = [*words_upto(6), *[scattered(size, size) for size in (7, 8, 9, 30, 31, 1000)]]
        for text in PROGRAMS:
            program = Program(text)
            for word in words:
                expected = self.expected_trace(text, word)
                self.assertEqual(program.done(word), expected[-1], (text, word))
                self.assertEqual(program.trace(list(word)), expected, (text, word))

    def test_kinds_of_values(self):
        for text in PROGRAMS:
            bits = [1, 0, 0, 1, 1]
            program = Program(text)
            self.assertIs(type(program.done(bits)), tuple)
            trace = program.trace(bits)
            self.assertIs(type(trace), tuple)
            self.assertEqual(len(trace), len(program) + 1)
            self.assertTrue(all(type(word) is tuple for word in trace))
            self.assertEqual(bits, [1, 0, 0, 1, 1])

    def test_what_is_told_is_new(self):
        word = (1, 0, 1)
        self.assertEqual(Program("").done(word), word)
        self.assertIsNot(Program("").done(word), word)
        self.assertEqual(Program("").trace(word), (word,))
        self.assertIsNot(Program("turn").trace(word)[0], word)

    def test_bad_words(self):
        for text in PROGRAMS:
            program = Program(text)
            for call in (program.done, program.trace):
                for bits in ((), [], (0,) * 1001, [None] * 1001):
                    self.refused(BadSize, "size", len(bits), call, bits)
                for value in [*odd_values(), 2, -1, "1"]:
                    for index in range(3):
                        bits = [0, 1, 0]
                        bits[index:] = [value] * (3 - index)
                        self.refused(BadBits, "index", index, call, bits)
                        self.refused(BadBits, "index", index, call, tuple(bits))

    def test_the_first_step_is_done_first(self):
        self.assertEqual(Program("turn then roll 1").done((1, 0, 0, 0)), (1, 0, 0, 0))
        self.assertEqual(Program("roll 1 then turn").done((1, 0, 0, 0)), (0, 0, 1, 0))

    def test_flips_of_one_bit(self):
        for bit in (0, 1):
            self.assertEqual(Program("flip first then flip last").done((bit,)), (bit,))

    def test_inverse_takes_back(self):
        for text in PROGRAMS:
            program = Program(text)
            for word in [*words_upto(6), scattered(100, 5), scattered(101, 6)]:
                self.assertEqual((~program).done(program.done(word)), word)
                self.assertEqual(program.done((~program).done(word)), word)

    def test_unlike_words_have_unlike_results(self):
        for text in PROGRAMS:
            for size in range(1, 7):
                words = list(product((0, 1), repeat=size))
                self.assertEqual(sorted(Program(text).done(word) for word in words), words)

    def test_sums_of_three_words(self):
        for text in [*PROGRAMS, *EXPECTED]:
            program = Program(text)
            for size in (1, 2, 3, 8, 17, 100):
                words = [scattered(size, seed) for seed in (1, 2, 3)]
                results = [program.done(word) for word in words]
                self.assertEqual(program.done([sum(bits) % 2 for bits in zip(*words)]),
                                 tuple(sum(bits) % 2 for bits in zip(*results)))


class TogetherTest(ProgramCase):
    """Point 7: putting programs together."""

    def setUp(self):
        self.programs = [Program(text) for text in PROGRAMS]

    def tearDown(self):
        self.assertEqual([program.text for program in self.programs], PROGRAMS)
        for program in self.programs:
            self.assertEqual([step.text for step in program.steps], parts_of(program.text))

    def test_program_and_program(self):
        for one in self.programs:
            for other in self.programs:
                parts = parts_of(one.text) + parts_of(other.text)
                self.same(parts, lambda: one + other)

    def test_program_and_step(self):
        for one in self.programs:
            for step in all_steps():
                self.same(parts_of(one.text) + [step.text], lambda: one + step)
                self.same([step.text] + parts_of(one.text), lambda: step + one)

    def test_inverse(self):
        for one in self.programs:
            self.same([EXPECTED[part][3] for part in parts_of(one.text)[::-1]], lambda: ~one)
            self.assertEqual(~~one, one)
        self.assertEqual(~Program("deal then near 1"), Program("sum 1 then undeal"))

    def test_difference(self):
        for one in self.programs:
            for other in self.programs:
                parts = parts_of(one.text) + [EXPECTED[part][3] for part in parts_of(other.text)[::-1]]
                self.same(parts, lambda: one - other)

    def test_order_of_the_bounds(self):
        deals, rest = Program("deal then deal"), Program("turn then turn then turn")
        self.refused(TooMany, "most", 5, lambda: deals + rest + deals)
        self.refused(TooMany, "most", 2, lambda: deals + deals)
        self.refused(TooMany, "most", 2, lambda: deals - deals)
        self.refused(TooMany, "most", 2, lambda: deals + Step("undeal"))
        self.refused(TooMany, "most", 2, lambda: Step("undeal") + deals)
        self.refused(TooMany, "most", 5, lambda: (rest + deals) + Step("deal"))
        self.refused(TooMany, "most", 2, lambda: deals * 2)
        self.refused(TooMany, "most", 5, lambda: deals * 3)
        self.refused(TooMany, "most", 5, lambda: -4 * deals)

    def test_times(self):
        for one in self.programs:
            parts = parts_of(one.text)
            inverse = [EXPECTED[part][3] for part in parts[::-1]]
            for many in range(-5, 6):
                expected = parts * many if many >= 0 else inverse * -many
                self.same(expected, lambda: one * many)
                self.same(expected, lambda: many * one)

    def test_times_what_is_no_number(self):
        for one in [*self.programs, Program("deal then deal")]:
            for value in [*odd_values(), 6, -6, 10 ** 30, -10 ** 30, "2", "", Step("turn")]:
                self.refused(BadNumber, "number", value, lambda: one * value)
                self.refused(BadNumber, "number", value, lambda: value * one)
            self.refused(BadNumber, "number", one, lambda: one * one)
            self.refused(BadNumber, "number", one, lambda: Program("turn") * one)

    def test_other_kinds_are_not_put_together(self):
        one = Program("turn")
        for call in (lambda: one + "turn", lambda: "turn" + one, lambda: one - Step("turn"), lambda: one + 1,
                     lambda: one + (Step("turn"),), lambda: Step("turn") + Step("turn")):
            self.assertRaises(TypeError, call)

    def test_reduced(self):
        for text, left in (
                ("", ""), ("turn", "turn"), ("turn then turn", ""), ("turn then turn then turn", "turn"),
                ("turn then near 2 then sum 2 then turn", ""), ("sum 1 then near 1", ""), ("deal then undeal", ""),
                ("swap then deal then undeal then swap then roll 1", "roll 1"), ("roll 2 then roll -2", ""),
                ("roll 1 then roll 1", "roll 1 then roll 1"), ("near 1 then near 1", "near 1 then near 1"),
                ("deal then deal", "deal then deal"), ("turn then swap then turn", "turn then swap then turn"),
                ("near 1 at 0 of 2 then near 1 at 0 of 2", ""), ("flip 1 of 3 then flip 1 of 3", ""),
                ("flip 0 of 2 then flip 1 of 2", "flip 0 of 2 then flip 1 of 2"),
                ("near 2 at 0 of 2 then near 2 at 0 of 2", "near 2 at 0 of 2 then near 2 at 0 of 2"),
                ("near 2 at 0 of 2 then sum 2 at 0 of 2", ""), ("near 2 then sum 2 then near 2", "near 2"),
                ("near 2 at 0 of 2 then sum 2 at 1 of 2", "near 2 at 0 of 2 then sum 2 at 1 of 2"),
                ("turn then flip 0 of 2 then flip 0 of 2 then turn then gather", "gather")):
            self.assertEqual(Program(text).reduced().text, left)
        for one in self.programs:
            self.same(taken_out(parts_of(one.text), True), one.reduced)

    def test_reduced_in_whatever_order(self):
        texts = ("turn", "near 1", "sum 1", "roll 1", "roll -1", "near 1 at 0 of 2")
        for many in range(6):
            for parts in product(texts, repeat=many):
                left = taken_out(parts, True)
                self.assertEqual(left, taken_out(parts, False))
                self.same(left, Program(written(parts)).reduced)


if __name__ == "__main__":
    unittest.main()

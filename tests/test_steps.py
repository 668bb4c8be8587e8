import unittest
from unittest.mock import ANY

from allwordlengths.errors import BadBits, BadNumber, BadSize, BadText
from allwordlengths.programs import Program
from allwordlengths.steps import Step, all_steps, flip_step, near_step, roll_step, sum_step
from plain import BY, expected_result, expected_steps, odd_values, scattered, words_upto

EXPECTED = expected_steps()
BARE = ("turn", "deal", "undeal", "swap", "gather", "spread", "flip first", "flip last")

# Of numbers: what stands here is none that may be passed as by, as of or as at.
NO_NUMBERS = [*odd_values(), "1", "", 4, -4, 5, 7, 12, 10 ** 30, -10 ** 30, 10 ** 5000]


class RefusalTest(unittest.TestCase):
    def refused(self, error, field, value, call, *args, **more):
        with self.assertRaises(error) as caught:
            call(*args, **more)
        self.assertIs(caught.exception.__class__, error)
        self.assertIs(getattr(caught.exception, field), value)


class StepTextTest(RefusalTest):
    """Points 3 and 4: which texts are steps."""

    def test_there_are_99(self):
        self.assertEqual(len(EXPECTED), 99)

    def test_attributes(self):
        for text, (kind, by, rest, _) in EXPECTED.items():
            step = Step(text)
            self.assertEqual(vars(step), {"text": text, "kind": kind, "by": by, "rest": rest})
            self.assertIn(type(step.rest), (tuple, type(None)))

    def near_texts(self):
        """Texts that are nearly those of steps, and others that only look like them."""
        for text in EXPECTED:
            yield from (" " + text, text + " ", text + "\n", text.upper(), text.replace(" ", "  ", 1) + ".",
                        text + " then " + text, text + " at 0 of 2 at 0 of 2", text[:-1], "not " + text)
            if " " in text:
                for other in ("  ", "\t", "\n", "", "\u00a0", "_"):
                    yield text.replace(" ", other)
                    yield text.replace(" ", other, 1)
        for word in ("roll", "near", "sum"):
            yield word
            for number in ("0", "-0", "+1", "01", "-01", "4", "-4", "1.0", "--1", "- 1", "\u0661", "1_0", "\u22121",
                           "10", "x", "", "C", "None", "True", "1 ", "1 at", "1 at ", "1 at 0", "1 at 0 of",
                           "1 at 0 of ", "1 of 2", "1 at 0 of 1", "1 at 0 of 5", "1 at 2 of 2", "1 at 3 of 3",
                           "1 at 4 of 4", "1 at -1 of 2", "1 at 00 of 2", "1 at +0 of 2", "1 at 0 of 02",
                           "1 at first", "0 at 0 of 2", "4 at 0 of 2", "1 at 0 of 2 of 2", "1 at 1 of 1"):
                yield word + " " + number
        for pair in ("0 of 1", "0 of 5", "2 of 2", "3 of 3", "4 of 4", "-1 of 2", "00 of 2", "+0 of 2", "0 of 02",
                     "0", "of 2", "0 of", "0 at 2", "all", "second", "first last", "1", "1 at 0 of 2", ""):
            yield "flip " + pair
        for by in BY:
            yield "roll %d at 0 of 1" % by
            for of in (2, 3, 4):
                for at in range(of):
                    yield "roll %d at %d of %d" % (by, at, of)
                    yield "flip %d at %d of %d" % (by, at, of)
                    if by % of != 0:
                        yield "sum %d at %d of %d" % (by, at, of)
        for word in BARE:
            yield word + " 1"
            yield word + " 1 at 0 of 2"
        yield from ("", " ", "then", "done", "first", "last", "flip", "near one", "turn turn", "\x00")

    def test_texts_that_are_no_steps(self):
        many = 0
        for text in self.near_texts():
            if text not in EXPECTED:
                many += 1
                self.refused(BadText, "text", text, Step, text)
        self.assertGreater(many, 1500)

    def test_sums_need_a_divisor(self):
        for text in ("sum 1 at 0 of 2", "sum 3 at 0 of 2", "sum 2 at 0 of 4", "sum -2 at 1 of 3", "sum -3 at 3 of 4"):
            self.refused(BadText, "text", text, Step, text)

    def test_values_that_are_no_texts(self):
        for value in [*odd_values(), 0, 1, -3, 10 ** 30, Step("turn"), Program("turn")]:
            self.refused(BadText, "text", value, Step, value)

    def test_equal_by_text(self):
        steps = [Step(text) for text in EXPECTED]
        for at, text in enumerate(EXPECTED):
            for other, step in enumerate(steps):
                self.assertEqual(Step(text) == step, at == other)
                self.assertEqual(Step(text) != step, at != other)

    def test_not_equal_to_other_kinds(self):
        step = Step("turn")
        for value in [*odd_values(), "turn", 0, Program("turn"), ANY]:
            self.assertIs(step == value, False)
            self.assertIs(step != value, True)


class ResultTest(RefusalTest):
    """Point 3: what the steps do to the bits."""

    def test_all_small_words(self):
        words = words_upto(7)
        for text, (kind, by, rest, _) in EXPECTED.items():
            step = Step(text)
            for word in words:
                self.assertEqual(step.done(word), expected_result(kind, by, rest, word), (text, word))

    def test_larger_words(self):
        words = [scattered(size, size) for size in (8, 9, 10, 11, 12, 13, 14, 15, 16, 23, 24, 97, 98)]
        for text, (kind, by, rest, _) in EXPECTED.items():
            for word in words:
                self.assertEqual(Step(text).done(word), expected_result(kind, by, rest, word), (text, word))

    def test_size_one(self):
        turned_over = ("flip 0 of 2", "flip 0 of 3", "flip 0 of 4", "flip first", "flip last")
        for text in EXPECTED:
            for bit in (0, 1):
                self.assertEqual(Step(text).done((bit,)), (1 - bit if text in turned_over else bit,), text)

    def test_examples(self):
        for text, given, result in (
                ("turn", (0, 1, 0, 1, 1), (1, 1, 0, 1, 0)),
                ("roll 2", (1, 0, 0, 1, 1), (1, 1, 1, 0, 0)),
                ("deal", (1, 0, 1, 1, 0), (1, 1, 0, 0, 1)),
                ("undeal", (1, 0, 1, 0, 1), (1, 0, 0, 1, 1)),
                ("swap", (1, 0, 0, 1, 1), (0, 1, 1, 0, 1)),
                ("near 1", (1, 0, 0, 1, 1), (1, 0, 1, 0, 1)),
                ("sum 1", (1, 0, 1, 0, 1), (1, 0, 0, 1, 1)),
                ("near -2 at 1 of 3", (1, 1, 1, 0, 1), (1, 1, 1, 0, 0)),
                ("sum 2 at 0 of 2", (1, 0, 1, 1, 1), (1, 0, 0, 1, 1)),
                ("gather", (1, 0, 1, 1, 1), (0, 0, 1, 1, 1)),
                ("spread", (1, 0, 1, 1, 1), (1, 1, 0, 0, 0)),
                ("flip 1 of 2", (0, 0, 0, 0, 0), (0, 1, 0, 1, 0)),
                ("roll 2", (1, 1, 0), (1, 0, 1))):
            self.assertEqual(Step(text).done(given), result, text)

    def test_lists_may_be_passed_and_are_not_changed(self):
        word = scattered(9, 4)
        for text in EXPECTED:
            bits = list(word)
            result = Step(text).done(bits)
            self.assertIs(type(result), tuple)
            self.assertEqual(result, Step(text).done(word))
            self.assertEqual(bits, list(word))
            self.assertTrue(all(type(bit) is int for bit in result))

    def test_what_is_told_is_new(self):
        zeros = (0, 0, 0)
        for text in EXPECTED:
            self.assertIsNot(Step(text).done(zeros), zeros)
            self.assertIsNot(Step(text).done((0, 1)), Step(text).done((0, 1)))

    def test_thousand_bits(self):
        word = scattered(1000, 7)
        for text, (kind, by, rest, _) in EXPECTED.items():
            self.assertEqual(Step(text).done(word), expected_result(kind, by, rest, word), text)

    def test_bad_sizes(self):
        for text in EXPECTED:
            step = Step(text)
            for bits in ((), [], (0,) * 1001, [1] * 1001, [None] * 1500, ["x"] * 1001):
                with self.assertRaises(BadSize) as caught:
                    step.done(bits)
                self.assertEqual(caught.exception.size, len(bits))

    def test_bad_bits(self):
        step = Step("near 1")
        for value in [*odd_values(), 2, -1, 10 ** 30, "0", "1", Step("turn")]:
            for size in (1, 2, 5, 1000):
                for index in {0, size // 2, size - 1}:
                    bits = [0] * size
                    bits[index] = value
                    for given in (bits, tuple(bits), [*bits[:index + 1], *[value] * (size - index - 1)]):
                        with self.assertRaises(BadBits) as caught:
                            step.done(given)
                        self.assertEqual(caught.exception.index, index)

    def test_bad_bits_for_each_step(self):
        for text in EXPECTED:
            with self.assertRaises(BadBits) as caught:
                Step(text).done((0, 1, True, False, 2))
            self.assertEqual(caught.exception.index, 2)


class InverseTest(RefusalTest):
    """Points 4 and 9: the inverse."""

    def test_texts(self):
        for text, (_, _, _, inverse) in EXPECTED.items():
            step = Step(text)
            self.assertEqual((~step).text, inverse)
            self.assertEqual(~step, Step(inverse))
            self.assertEqual(~~step, step)
            self.assertEqual(step.text, text)

    def test_attributes(self):
        for text, (_, _, _, inverse) in EXPECTED.items():
            self.assertEqual(vars(~Step(text)), vars(Step(inverse)))

    def test_examples(self):
        self.assertEqual((~Step("near 2 at 1 of 2")).text, "sum 2 at 1 of 2")
        self.assertEqual((~Step("near 1 at 1 of 2")).text, "near 1 at 1 of 2")
        self.assertEqual((~Step("roll -3")).text, "roll 3")

    def test_taken_back(self):
        words = [*words_upto(6), scattered(31, 1), scattered(32, 2)]
        for text in EXPECTED:
            step = Step(text)
            for word in words:
                self.assertEqual((~step).done(step.done(word)), word)
                self.assertEqual(step.done((~step).done(word)), word)


class BuildTest(RefusalTest):
    """Point 4: the functions that build a step."""

    def test_roll_step(self):
        for by in BY:
            self.assertEqual(roll_step(by), Step("roll %d" % by))
        for value in [*NO_NUMBERS, 0]:
            self.refused(BadNumber, "number", value, roll_step, value)

    def test_without_at_and_of(self):
        for by in BY:
            self.assertEqual(near_step(by), Step("near %d" % by))
            self.assertEqual(sum_step(by), Step("sum %d" % by))
            self.assertEqual(near_step(by, at=0), Step("near %d" % by))
            self.assertEqual(sum_step(by, of=1), Step("sum %d" % by))
            self.assertEqual(near_step(by, of=1, at=0), Step("near %d" % by))

    def test_at_left_out(self):
        self.assertEqual(near_step(-1, of=3), Step("near -1 at 0 of 3"))
        self.assertEqual(sum_step(-2, of=2), Step("sum -2 at 0 of 2"))

    def test_all_calls(self):
        for by in BY:
            for of in (1, 2, 3, 4):
                for at in range(of):
                    tail = "" if of == 1 else " at %d of %d" % (at, of)
                    self.assertEqual(near_step(by, at=at, of=of).text, "near %d%s" % (by, tail))
                    if by % of == 0:
                        self.assertEqual(sum_step(by, at=at, of=of).text, "sum %d%s" % (by, tail))
                    else:
                        self.refused(BadNumber, "number", of, sum_step, by, at=at, of=of)
                    if of > 1:
                        self.assertEqual(flip_step(at=at, of=of).text, "flip %d of %d" % (at, of))

    def test_bad_by_comes_first(self):
        for value in [*NO_NUMBERS, 0]:
            for build in (near_step, sum_step):
                self.refused(BadNumber, "number", value, build, value)
                self.refused(BadNumber, "number", value, build, value, at="at", of="of")

    def test_bad_of_comes_next(self):
        for value in [*NO_NUMBERS, 0, -1]:
            if value != 4 or isinstance(value, bool):
                self.refused(BadNumber, "number", value, near_step, 1, at="at", of=value)
                self.refused(BadNumber, "number", value, flip_step, at="at", of=value)
            self.refused(BadNumber, "number", value, sum_step, 1, at="at", of=value)
        self.refused(BadNumber, "number", 1, flip_step, at=0, of=1)
        self.refused(BadNumber, "number", 1, flip_step, at="at", of=1)
        self.refused(BadNumber, "number", 2, sum_step, 3, at="at", of=2)
        self.refused(BadNumber, "number", 4, sum_step, -2, at=9, of=4)

    def test_bad_at_comes_last(self):
        for value in [*NO_NUMBERS, -1]:
            for of in (1, 2, 3, 4):
                self.refused(BadNumber, "number", value, near_step, -2, at=value, of=of)
            for of in (1, 2):
                self.refused(BadNumber, "number", value, sum_step, -2, at=value, of=of)
            for of in (2, 3, 4):
                self.refused(BadNumber, "number", value, flip_step, at=value, of=of)
        for of in (1, 2, 3, 4):
            self.refused(BadNumber, "number", of, near_step, 1, at=of, of=of)
        self.refused(BadNumber, "number", 1, near_step, 1, at=1)
        self.refused(BadNumber, "number", 1, sum_step, 1, at=1)
        self.refused(BadNumber, "number", 3, sum_step, 3, at=3, of=3)
        self.refused(BadNumber, "number", 2, flip_step, at=2, of=2)

    def test_only_keywords(self):
        for build in (near_step, sum_step):
            with self.assertRaises(TypeError):
                build(2, 0, 2)
        with self.assertRaises(TypeError):
            flip_step(0, 2)
        with self.assertRaises(TypeError):
            flip_step(of=2)
        self.assertEqual(roll_step(by=2), Step("roll 2"))
        self.assertEqual(near_step(by=2), Step("near 2"))
        self.assertEqual(sum_step(by=2), Step("sum 2"))
        self.assertEqual(Step(text="turn").text, "turn")

    def test_all_steps(self):
        steps = all_steps()
        self.assertIs(type(steps), tuple)
        self.assertTrue(all(type(step) is Step for step in steps))
        self.assertEqual([step.text for step in steps], sorted(EXPECTED))
        self.assertEqual([vars(step) for step in steps], [vars(Step(text)) for text in sorted(EXPECTED)])
        self.assertIsNot(all_steps(), all_steps())


if __name__ == "__main__":
    unittest.main()

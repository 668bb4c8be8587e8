"""Points 37 and 38: on what a bit at a place, told from the beginning or from the end, hangs."""

import unittest
from random import Random
from unittest.mock import patch

from allwordlengths.errors import BadPlace, TooLarge, TooMany
from allwordlengths.hanging import flipped_sizes, hangs_sizes, same_bit_sizes
from allwordlengths.programs import Program
from allwordlengths.sizes import Sizes, all_sizes, no_sizes, only_sizes, sizes_from, sizes_rest, sizes_upto
from allwordlengths.walks import bit_at
from cases import LARGE, NO_INTEGERS, REWRITTEN, Case, K, far_sizes, is_refused
from plain import expected_steps, plain_table, program_texts

STEPS = ["", *expected_steps()]
EDGES = (-100, -99, -64, -63, -3, -2, -1, 0, 1, 2, 31, 32, 63, 64, 98, 99)
BAD_PLACES = [*NO_INTEGERS, -101, 100, K, -K]


def place_at(told, k):
    """The place that is told, at a size, or None if the size has not got it."""
    place = told if told >= 0 else k + told
    return place if 0 <= place < k else None


def sizes_about(*places):
    """The sizes 1 to 12 and those about some places."""
    about = {size + more for place in places for size in (abs(place), place + 1) for more in (-2, -1, 0, 1, 2, 7)}
    return sorted({k for k in about if k > 0} | set(range(1, 13)))


def some_place(random):
    return random.choice([random.choice(EDGES), random.randint(-100, 99), random.randint(-6, 5)])


class SmallTest(Case):
    """Against plain doing at the sizes 1 to 12 and about the places."""

    def check(self, text, i, j):
        program = Program(text)
        hangs, flipped = hangs_sizes(program, i, j), flipped_sizes(program, i)
        self.assertEqual([type(hangs), type(flipped)], [Sizes, Sizes])
        for k in sizes_about(i, j):
            place, other = place_at(i, k), place_at(j, k)
            mask, flip = plain_table(text, k)[place] if place is not None else (0, 0)
            self.assertIs(k in hangs, other is not None and mask >> other & 1 == 1, (text, i, j, k))
            self.assertIs(k in flipped, flip == 1, (text, i, k))

    def check_same(self, one, i, other, j):
        found = same_bit_sizes(Program(one), i, Program(other), j)
        self.assertIs(type(found), Sizes)
        for k in sizes_about(i, j):
            first, second = place_at(i, k), place_at(j, k)
            same = None not in (first, second) and plain_table(one, k)[first] == plain_table(other, k)[second]
            self.assertIs(k in found, same, (one, i, other, j, k))
        self.assertEqual(same_bit_sizes(Program(other), j, Program(one), i), found)

    def test_steps(self):
        random = Random(151)
        for text in STEPS:
            for i, j in ((0, 0), (-1, 0), (some_place(random), some_place(random)), (random.choice(EDGES), some_place(random))):
                self.check(text, i, j)

    def test_programs(self):
        random = Random(152)
        for text in program_texts(153, 120, 5):
            try:
                i = some_place(random)
                self.check(text, i, some_place(random))
                # The places that are near are the ones on which bits mostly hang.
                self.check(text, i, min(max(i + random.randint(-4, 4), -100), 99))
            except TooLarge:
                self.assertTrue(is_refused(text))

    def test_all_places_of_few_programs(self):
        for text in ("turn", "near 3 then flip last", "deal then flip 1 of 4", "sum -2 then roll 3"):
            for i in range(-100, 100, 7):
                for j in (-1 - i, i, -100 - i if i < 0 else 99 - i):
                    self.check(text, i, j)

    def test_same_bits(self):
        random = Random(154)
        for one, other in zip(program_texts(155, 90, 5), program_texts(156, 90, 5)):
            i = some_place(random)
            j = random.choice([i, -1 - i, some_place(random)])
            try:
                self.check_same(one, i, other, j)
                self.check_same(one, i, one, j)
                self.check_same(one, i, one, i)
            except TooLarge:
                self.assertTrue(is_refused(one) or is_refused(other), (one, other))

    def test_an_inverse_ahead(self):
        random = Random(157)
        for text in program_texts(158, 40, 2):
            step = random.choice(STEPS[1:])
            longer = " then ".join([step, expected_steps()[step][3], text])
            if longer.count("deal") <= 2:
                i = some_place(random)
                try:
                    self.check_same(text, i, longer, i)
                    self.check_same(text, i, longer, some_place(random))
                    self.assertEqual(same_bit_sizes(Program(text), i, Program(longer), i),
                                     sizes_from(i + 1 if i >= 0 else -i))
                except TooLarge:
                    self.assertTrue(is_refused(text) or is_refused(longer))

    def test_rewritten(self):
        for one, other in REWRITTEN:
            for i in (0, -1, 5, -100, 99):
                self.assertEqual(same_bit_sizes(Program(one), i, Program(other), i), sizes_from(i + 1 if i >= 0 else -i))

    def test_sizes_without_the_places(self):
        self.assertEqual(hangs_sizes(Program(""), 99, 99), sizes_from(100))
        self.assertEqual(hangs_sizes(Program(""), -100, -100), sizes_from(100))
        self.assertEqual(hangs_sizes(Program(""), 99, -100), only_sizes((199,)))
        self.assertEqual(hangs_sizes(Program(""), -100, 99), only_sizes((199,)))
        self.assertEqual(hangs_sizes(Program("turn"), 99, -100), sizes_from(100))
        self.assertEqual(hangs_sizes(Program("gather"), 0, 99), sizes_from(100))
        self.assertEqual(same_bit_sizes(Program(""), 99, Program(""), -1), only_sizes((100,)))
        self.assertEqual(same_bit_sizes(Program(""), 50, Program(""), 51), no_sizes())
        self.assertEqual(flipped_sizes(Program("flip 0 of 2 then flip 1 of 2"), -100), sizes_from(100))
        self.assertEqual(flipped_sizes(Program("flip 0 of 2 then flip 1 of 2"), 99), sizes_from(100))
        self.assertEqual(flipped_sizes(Program("near 1"), 0), no_sizes())


class FarTest(Case):
    """At far sizes, by following bits back through programs."""

    def test_following_back(self):
        random = Random(161)
        for text in program_texts(162, 90, 5):
            program = Program(text)
            i = some_place(random)
            try:
                flipped = flipped_sizes(program, i)
                hangs = {j: hangs_sizes(program, i, j) for j in {i, -1 - i, 0, -1, some_place(random)}}
            except TooLarge:
                continue
            for k in far_sizes(random, 4):
                place = place_at(i, k)
                if place is None:
                    self.assertNotIn(k, flipped)
                    continue
                parity = bit_at(k, place).back(program)
                self.assertIs(k in flipped, parity.plus == 1, (text, i, k))
                for j, found in hangs.items():
                    other = place_at(j, k)
                    self.assertIs(k in found, other is not None and other in parity.marks, (text, i, j, k))

    def test_same_bits(self):
        random = Random(163)
        for one, other in zip(program_texts(164, 70, 4), program_texts(165, 70, 4)):
            i, j = some_place(random), some_place(random)
            for pair in (((one, i), (other, j)), ((one, i), (one, j)), ((one, i), (one, i))):
                (first, i, ), (second, j) = pair
                try:
                    found = same_bit_sizes(Program(first), i, Program(second), j)
                except TooLarge:
                    continue
                for k in far_sizes(random, 3):
                    places = place_at(i, k), place_at(j, k)
                    same = None not in places and (
                        bit_at(k, places[0]).back(Program(first)) == bit_at(k, places[1]).back(Program(second)))
                    self.assertIs(k in found, same, (pair, k))

    def test_closed_rules(self):
        odd, even = sizes_rest(1, 2), sizes_rest(0, 2)
        for by in (1, 2, 3):
            self.assertEqual(hangs_sizes(Program("near %d" % by), 7, 7 + by), sizes_from(8 + by))
            self.assertEqual(hangs_sizes(Program("near %d" % by), -1 - by, -1), sizes_from(1 + by))
            self.assertEqual(hangs_sizes(Program("sum %d" % by), 0, -1), sizes_rest(1 % by, by))
            self.assertEqual(hangs_sizes(Program("sum %d" % by), 5, -1), sizes_rest(6 % by, by) & sizes_from(6))
        self.assertEqual(flipped_sizes(Program("flip 0 of 2"), -1), odd)
        self.assertEqual(flipped_sizes(Program("flip 1 of 2 then turn"), 0), even)
        self.assertEqual(flipped_sizes(Program("flip 2 of 3"), -1), sizes_rest(0, 3))
        self.assertEqual(hangs_sizes(Program("deal"), -1, -1), even | only_sizes((1,)))
        self.assertEqual(hangs_sizes(Program("undeal"), 1, -1), only_sizes((2, 3)))

    def test_examples(self):
        roll, deal, empty = Program("roll 1"), Program("deal"), Program("")
        self.assertEqual(hangs_sizes(roll, 0, -1), all_sizes())
        self.assertEqual(hangs_sizes(roll, 1, 0), sizes_from(2))
        self.assertEqual(hangs_sizes(roll, 0, 0), only_sizes((1,)))
        self.assertEqual(hangs_sizes(deal, -1, -1), sizes_rest(0, 2) | only_sizes((1,)))
        self.assertEqual(hangs_sizes(deal, -1, -2), sizes_rest(1, 2) & sizes_from(3))
        self.assertEqual(flipped_sizes(Program("flip last"), 4), only_sizes((5,)))
        self.assertEqual(same_bit_sizes(Program("gather"), 0, Program("near 1"), 0), sizes_upto(2))
        self.assertEqual(same_bit_sizes(Program("turn"), 0, empty, -1), all_sizes())
        self.assertEqual(same_bit_sizes(roll, 2, empty, 1), sizes_from(3))
        self.assertEqual(same_bit_sizes(Program("flip first"), 0, empty, 0), no_sizes())


class RefusedTest(Case):
    """Points 2, 37 and 38: what is refused, and in which order."""

    def test_bad_places(self):
        for text in ("", "near 1", *LARGE):
            program = Program(text)
            for value in BAD_PLACES:
                self.refused(BadPlace, "place", value, flipped_sizes, program, value)
                for other in (0, -100, 99, None, 100):
                    self.refused(BadPlace, "place", value, hangs_sizes, program, value, other)
                    self.refused(BadPlace, "place", value, same_bit_sizes, program, value, Program("turn"), other)
                for good in (0, -100, 99):
                    self.refused(BadPlace, "place", value, hangs_sizes, program, good, value)
                    self.refused(BadPlace, "place", value, same_bit_sizes, Program(""), good, program, value)

    def test_too_large(self):
        good = Program("turn")
        for text in LARGE:
            large = Program(text)
            self.refused(TooLarge, "most", 60, hangs_sizes, large, 0, 99)
            self.refused(TooLarge, "most", 60, flipped_sizes, large, -100)
            for one, other in ((large, good), (good, large), (large, large)):
                self.refused(TooLarge, "most", 60, same_bit_sizes, one, 0, other, -1)

    def test_too_many_classes(self):
        """No set of these functions is known that has more than 400 classes, so fewer are allowed here."""
        program, large = Program("near 3 then flip 2 of 3"), Program(LARGE[0])
        calls = [(hangs_sizes, (50, 53), 1), (flipped_sizes, (-50,), 1), (same_bit_sizes, (50, Program("near 3"), 50), 2)]
        for call, more, _ in calls:
            most = len(call(program, *more).digit_rows)
            with patch("allwordlengths.sizes.MOST_CLASSES", most - 1):
                self.refused(TooMany, "most", most - 1, call, program, *more)
                self.refused(TooLarge, "most", 60, call, large, *more)
                self.refused(BadPlace, "place", 100, call, large, 100, *more[1:])
            with patch("allwordlengths.sizes.MOST_CLASSES", most):
                call(program, *more)

    def test_names_of_arguments(self):
        program = Program("roll 1")
        self.assertEqual(hangs_sizes(program=program, i=1, j=0), sizes_from(2))
        self.assertEqual(flipped_sizes(program=program, i=1), no_sizes())
        self.assertEqual(same_bit_sizes(one=program, i=2, other=Program(""), j=1), sizes_from(3))


if __name__ == "__main__":
    unittest.main()

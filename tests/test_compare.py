"""Points 32 and 33: whether, at which sizes and where two programs do the same."""

import re
import unittest
from random import Random
from unittest.mock import patch

from allwordlengths.compare import alike, alike_at, apart_sizes, first_apart
from allwordlengths.errors import BadSize, TooLarge, TooMany
from allwordlengths.marks import Marks
from allwordlengths.programs import Program
from allwordlengths.sizes import (
    Sizes, all_sizes, no_sizes, only_sizes, sizes_from, sizes_of_rows, sizes_rest, sizes_upto,
)
from allwordlengths.walks import behind, hangs_on
from cases import LARGE, NO_INTEGERS, REWRITTEN, Case, K, far_sizes, is_refused
from counted import runs_at
from plain import are_alike, expected_steps, plain_first_apart, program_texts

STEPS = ["", *expected_steps()]
BAD_SIZES = [*NO_INTEGERS, 0, -1, K + 1, 10 ** 5000]

# Pairs of programs with the set of the sizes at which they are alike.
KNOWN = (
    ("near 1", "", only_sizes((1,))), ("flip first", "flip last", only_sizes((1,))), ("swap", "turn", sizes_upto(2)),
    ("roll 3", "roll -3", only_sizes((1, 2, 3, 6))), ("deal then deal", "", sizes_upto(4)),
    ("near 3", "sum 3", sizes_upto(6)), ("near 3 at 2 of 4", "", sizes_upto(5)), ("gather", "near 1", sizes_upto(2)),
    ("flip 0 of 2 then turn", "turn then flip 0 of 2", sizes_rest(1, 2)),
    ("flip 1 of 3 then turn", "turn then flip 1 of 3", sizes_rest(0, 3) | only_sizes((1,))),
    ("flip 0 of 4 then turn", "turn then flip 0 of 4", sizes_rest(1, 4)),
    ("flip 0 of 2", "flip 1 of 2", no_sizes()), ("flip 3 of 4", "", sizes_upto(3)),
    ("flip last", "flip 2 of 3", only_sizes((3,))), ("deal", "undeal", sizes_upto(4)),
    ("near -1 then flip 2 of 4", "near -1 then flip last", only_sizes((3,))),
    ("roll 2 then flip last", "flip first then roll 2", only_sizes((1, 3))),
    ("near 2 at 0 of 2 then roll 2", "roll 2 then near 2 at 0 of 2", only_sizes((1, 2))),
    ("sum 1", "near 1 then near 2", sizes_upto(4)), ("turn then near 1", "near -1 then turn", all_sizes()),
)
KNOWN_PAIRS = [(one, other) for one, other, _ in KNOWN]


def sizes_alike(one, other):
    return ~apart_sizes(Program(one), Program(other))


class SmallTest(Case):
    """Against plain doing at the sizes 1 to 9."""

    UPTO = 9

    def check(self, one, other):
        first, second = Program(one), Program(other)
        same = [k for k in range(1, self.UPTO + 1) if are_alike(one, other, k)]
        apart = apart_sizes(first, second)
        self.assertIs(type(apart), Sizes)
        self.assertEqual([k for k in range(1, self.UPTO + 1) if k not in apart], same, (one, other))
        for k in range(1, self.UPTO + 1):
            self.assertIs(alike_at(first, second, k), k in same, (one, other, k))
        self.assertIs(alike(first, second), apart.is_none(), (one, other))
        self.check_first(one, other, apart)
        self.assertEqual([first.text, second.text], [one, other])

    def check_first(self, one, other, apart):
        found = first_apart(Program(one), Program(other))
        expected = plain_first_apart(one, other, self.UPTO)
        if expected is None and found is not None:
            self.assertGreater(found[0], self.UPTO, (one, other))
            expected = plain_first_apart(one, other, 60)
        self.assertEqual(found, expected, (one, other))
        if found is not None:
            self.assertEqual([type(found), *[type(part) for part in found[:2]]], [tuple, int, int])
        self.assertEqual(apart.least(), None if found is None else found[0])

    def check_both(self, one, other):
        self.check(one, other)
        self.check(other, one)
        self.assertEqual(apart_sizes(Program(one), Program(other)), apart_sizes(Program(other), Program(one)))
        self.assertEqual(first_apart(Program(one), Program(other)), first_apart(Program(other), Program(one)))

    def check_if_told(self, one, other):
        try:
            self.check_both(one, other)
        except TooLarge:
            self.assertTrue(is_refused(one) or is_refused(other), (one, other))

    def test_programs(self):
        for one, other in zip(program_texts(101, 40, 5), program_texts(102, 40, 5)):
            self.check_if_told(one, other)

    def test_steps(self):
        random = Random(103)
        for one in STEPS[::2]:
            for other in random.sample(STEPS, 2):
                self.check(one, other)

    def test_a_step_and_its_inverse_put_in(self):
        random = Random(104)
        for text in program_texts(105, 40, 3):
            parts = text.split(" then ")
            step = random.choice(STEPS[1:])
            place = random.randint(0, len(parts))
            longer = " then ".join([*parts[:place], step, expected_steps()[step][3], *parts[place:]])
            if len(re.findall("deal", longer)) <= 2:
                self.check_if_told(text, longer)

    def test_a_step_more(self):
        random = Random(106)
        for text in program_texts(107, 25, 4):
            longer = text + " then " + random.choice(STEPS[1:])
            if len(re.findall("deal", longer)) <= 2:
                self.check_if_told(text, longer)

    def test_words(self):
        """By doing the word of noughts and all words with a single 1."""
        for one, other in [*zip(program_texts(112, 25, 4), program_texts(113, 25, 4)), *REWRITTEN[::4], *KNOWN_PAIRS[::4]]:
            first, second = Program(one), Program(other)
            for k in range(1, 10):
                words = [(0,) * k, *[tuple(int(place == j) for place in range(k)) for j in range(k)]]
                same = all(first.done(word) == second.done(word) for word in words)
                try:
                    self.assertIs(alike_at(first, second, k), same, (one, other, k))
                except TooLarge:
                    self.assertTrue(is_refused(one) or is_refused(other))

    def test_rewritten(self):
        for one, other in REWRITTEN:
            self.check_both(one, other)
            self.assertIs(alike(Program(one), Program(other)), True)
            self.assertIs(first_apart(Program(one), Program(other)), None)
            self.assertTrue(apart_sizes(Program(one), Program(other)).is_none())

    def test_known(self):
        for one, other, _ in KNOWN:
            self.check_both(one, other)


class FarTest(Case):
    """At far sizes, against closed rules and against words that walk through both programs."""

    def test_known_sets(self):
        for one, other, expected in KNOWN:
            self.assertEqual(sizes_alike(one, other), expected, (one, other))
            for k in (1, 2, 3, 4, 5, 6, 7, 12, 99, 2 ** 60, K - 3, K - 2, K - 1, K):
                self.assertIs(alike_at(Program(one), Program(other), k), k in expected, (one, other, k))

    def test_apart_at_one_size_alone(self):
        for one, other, size in (
                ("gather then flip first", "flip last then gather then flip last", 1),
                ("flip first", "gather then flip last then gather then flip last", 1),
                ("flip first then near -2 then deal then near -1 at 1 of 2",
                 "near -2 then deal then near -1 at 1 of 2 then flip first", 2),
                ("spread then near 1 at 0 of 2 then flip last then near 1 at 0 of 2",
                 "near 1 at 0 of 2 then flip last then near 1 at 0 of 2 then spread", 2)):
            for pair in ((one, other), (other, one)):
                self.assertEqual(apart_sizes(Program(pair[0]), Program(pair[1])), only_sizes((size,)), pair)
                self.assertEqual(first_apart(Program(pair[0]), Program(pair[1])), plain_first_apart(*pair, 9))
                self.assertIs(alike(Program(pair[0]), Program(pair[1])), False)
                for k in (1, 2, 3, K):
                    self.assertIs(alike_at(Program(pair[0]), Program(pair[1]), k), k != size)

    def test_alike_at_one_size_alone(self):
        for size in (1, 2, 3, 4):
            self.assertEqual(sizes_alike("flip last", "flip %d of 4" % (size - 1)), only_sizes((size,)))
        self.assertEqual(sizes_alike("roll 3 then roll 2", "roll -3"), only_sizes((1, 2, 4, 8)))

    def test_words_that_walk(self):
        random = Random(108)
        texts = [text for text in program_texts(109, 60, 4) if not re.search("deal|sum -?3 at", text)]
        pairs = [*zip(texts, texts[1:]), *REWRITTEN, *[(text, text) for text in texts[:5]]]
        for one, other in pairs:
            first, second = Program(one), Program(other)
            for k in random.sample(far_sizes(random, 4), 3):
                same = alike_at(first, second, k)
                self.assertIs(same, k not in apart_sizes(first, second))
                words = [Marks(k, runs_at(random, k, 6)) for _ in range(2)]
                results = [behind(first, word) == behind(second, word) for word in words]
                if not all(results):
                    self.assertIs(same, False, (one, other, k))

    def test_first_apart_by_following_back(self):
        for one, other in zip(program_texts(110, 60, 4), program_texts(111, 60, 4)):
            try:
                found = first_apart(Program(one), Program(other))
            except TooLarge:
                continue
            if found is not None:
                k, i, j = found
                first, second = [hangs_on(Program(text), k, i, 1000) for text in (one, other)]
                self.assertEqual(j is None, first[1] != second[1])
                if j is not None:
                    self.assertEqual(j, min(set(first[0]) ^ set(second[0])))


class PlacesTest(Case):
    """Point 33: which place is told."""

    def test_flips_and_places(self):
        for one, other, expected in (
                ("near 1", "", (2, 0, 1)), ("flip first", "flip last", (2, 0, None)), ("swap", "turn", (3, 0, 1)),
                # At place 0 both the flips and the places are unlike: then no j is told.
                ("flip 1 of 2 then turn", "", (2, 0, None)), ("flip 1 of 2 then roll 1", "", (2, 0, None)),
                # The flips are unlike only behind the places.
                ("turn then flip 1 of 2", "", (2, 0, 0)), ("roll 1 then flip 1 of 2", "", (2, 0, 0)),
                # The flips are unlike ahead of the places.
                ("flip 0 of 2 then turn then flip 0 of 2 then near -1", "turn", (2, 0, None)),
                ("near 3 at 2 of 4", "", (6, 2, 5)), ("near -3 at 2 of 4", "", (7, 6, 3)), ("deal", "", (3, 1, 1)),
                ("deal", "undeal", (5, 1, 2)), ("sum 3", "near 3", (7, 0, 6)), ("turn", "turn", None),
                ("flip 2 of 3", "", (3, 2, None)), ("flip 0 of 2", "flip 0 of 3", (3, 2, None))):
            for pair in ((one, other), (other, one)):
                found = first_apart(Program(pair[0]), Program(pair[1]))
                self.assertEqual(found, expected, pair)
                if expected is not None:
                    self.assertEqual(plain_first_apart(*pair, expected[0]), expected)

    def test_what_is_told_is_new(self):
        one, other = Program("near 1"), Program("near 2 then flip last")
        self.assertEqual(first_apart(one, other), first_apart(one, other))
        self.assertIsNot(first_apart(one, other), first_apart(one, other))
        self.assertIsNot(apart_sizes(one, other), apart_sizes(one, other))

    def test_sets_made_in_other_ways(self):
        apart = apart_sizes(Program("near 1"), Program(""))
        self.assertEqual(apart, sizes_from(2))
        self.assertEqual(apart, ~only_sizes([1]))
        self.assertEqual(apart, sizes_of_rows(apart.digit_rows))
        self.assertEqual(apart_sizes(Program("turn"), Program("turn")), no_sizes())
        self.assertEqual(apart_sizes(Program("flip 0 of 2"), Program("flip 1 of 2")), all_sizes())


class RefusedTest(Case):
    """Points 2 and 32: what is refused, and in which order."""

    def test_bad_sizes_come_first(self):
        programs = [Program(text) for text in ("", "near 1 then flip last", *LARGE)]
        for one in programs:
            for other in programs:
                for value in BAD_SIZES:
                    self.refused(BadSize, "size", value, alike_at, one, other, value)

    def test_too_large(self):
        good = Program("near 1")
        for text in LARGE:
            large = Program(text)
            for pair in ((large, good), (good, large), (large, large), (large, Program(LARGE[0]))):
                for call in (alike, apart_sizes, first_apart):
                    self.refused(TooLarge, "most", 60, call, *pair)
                for k in (1, 7, K):
                    self.refused(TooLarge, "most", 60, alike_at, *pair, k)

    def test_too_many_classes(self):
        """No two programs are known whose set has more than 400 classes, so fewer are allowed here."""
        one, other = Program("roll 3"), Program("roll -3")
        most = len(apart_sizes(one, other).digit_rows)
        with patch("allwordlengths.sizes.MOST_CLASSES", most - 1):
            self.refused(TooMany, "most", most - 1, apart_sizes, one, other)
            self.refused(TooLarge, "most", 60, apart_sizes, one, Program(LARGE[0]))
            # What tells no set is not refused.
            self.assertEqual(first_apart(one, other), (4, 0, 1))
            self.assertIs(alike_at(one, other, 6), True)
        with patch("allwordlengths.sizes.MOST_CLASSES", most):
            self.assertEqual(apart_sizes(one, other), ~only_sizes((1, 2, 3, 6)))

    def test_names_of_arguments(self):
        one, other = Program("turn"), Program("swap")
        self.assertIs(alike(one=one, other=other), False)
        self.assertEqual(apart_sizes(one=one, other=other), sizes_from(3))
        self.assertIs(alike_at(one=one, other=other, k=2), True)
        self.assertEqual(first_apart(one=one, other=other), (3, 0, 1))


if __name__ == "__main__":
    unittest.main()

"""Points 34 and 35: programs that are done one behind the other."""

import unittest
from random import Random
from unittest.mock import patch

from allwordlengths.errors import BadNumber, TooLarge, TooMany
from allwordlengths.marks import Marks
from allwordlengths.places import times_home
from allwordlengths.powers import back_sizes, commute_sizes, takes_back_sizes
from allwordlengths.programs import Program
from allwordlengths.sizes import Sizes, all_sizes, no_sizes, only_sizes, sizes_rest, sizes_upto
from allwordlengths.tables import Table
from allwordlengths.walks import behind
from cases import LARGE, NO_INTEGERS, REWRITTEN, Case, K, far_sizes, is_refused
from counted import runs_at
from plain import are_alike, expected_steps, plain_states, program_texts

UPTO = 9
STEPS = ["", *expected_steps()]
MOVES = ("turn", "roll", "deal", "undeal", "swap", "flip", "flip first", "flip last")

# Programs that are refused, told by the number of times, and what may be done as often without that.
REFUSED = (("deal", 3, 2), ("undeal then near 2 at 3 of 4", 3, 2), ("sum 3 at 0 of 3 then roll 3", 2, 1),
           ("near 3 at 0 of 3 then spread", 4, 3), ("sum 2 at 1 of 2 then sum 3 at 0 of 3", 3, 2))

# Programs one of which is refused if it stands behind the other, but not ahead of it.
ONE_WAY = (("sum 3 at 0 of 3 then roll 3", "sum -3 at 2 of 3"), ("near -2 at 1 of 3 then near -3 at 1 of 3", "deal"),
           ("near 3 at 0 of 4 then sum -3", "undeal then sum 3"), ("sum 3", "sum -3 at 2 of 3"))


def put(*texts):
    """The text of the steps of some texts, one behind the other."""
    return " then ".join(text for text in texts if text)


def sizes_in(sizes, upto):
    return [k for k in range(1, upto + 1) if k in sizes]


def twos(number):
    """The greatest power of 2 that divides a number."""
    return number & -number


class PowersCase(Case):
    def check_refused(self, *rows):
        """One of some rows of texts is refused if they are done one behind the other, or is too long for a program."""
        for texts in rows:
            parts = put(*texts).split(" then ")
            if len(parts) > 5 or put(*texts).count("deal") > 2 or is_refused(put(*texts)):
                return
        self.fail(rows)


class BackTest(PowersCase):
    """Point 34: back_sizes."""

    def check(self, text, times):
        found = back_sizes(Program(text), times)
        self.assertIs(type(found), Sizes)
        expected = [k for k in range(1, UPTO + 1) if are_alike(put(*[text] * times), "", k)]
        self.assertEqual(sizes_in(found, UPTO), expected, (text, times))
        return found

    def check_if_told(self, text, times):
        try:
            return self.check(text, times)
        except TooLarge:
            self.check_refused([text] * times)
            return None

    def test_programs(self):
        random = Random(121)
        for text in program_texts(122, 120, 5):
            self.check_if_told(text, random.randint(1, 8))

    def test_steps_at_all_times(self):
        for at, text in enumerate(STEPS):
            for times in range(1 + at % 3, 9, 3):
                self.check_if_told(text, times)

    def test_words(self):
        """By doing the word of noughts and all words with a single 1 as often."""
        random = Random(126)
        for text in program_texts(127, 30, 4):
            program, times = Program(text), random.randint(1, 8)
            found = self.check_if_told(text, times)
            for k in range(1, 10):
                words = [(0,) * k, *[tuple(int(place == j) for place in range(k)) for j in range(k)]]
                results = words
                for _ in range(times):
                    results = [program.done(word) for word in results]
                if found is not None:
                    self.assertIs(k in found, results == words, (text, times, k))

    def test_times_home(self):
        told = 0
        for text in program_texts(123, 60, 4, MOVES):
            program = Program(text)
            home = {k: times_home(program, k) for k in range(1, 41)}
            for times in (1, 2, 3, 4, 6, 8):
                try:
                    found = back_sizes(program, times)
                except TooLarge:
                    continue
                told += 1
                self.assertEqual(sizes_in(found, 40), [k for k in home if times % home[k] == 0], (text, times))
        self.assertGreater(told, 150)

    def test_closed_rules(self):
        for times in range(1, 9):
            for by in (-3, -2, -1, 1, 2, 3):
                size = abs(by) * twos(times)
                self.assertEqual(back_sizes(Program("near %d" % by), times), sizes_upto(size), (by, times))
                self.assertEqual(back_sizes(Program("sum %d" % by), times), sizes_upto(size), (by, times))
                # A roll by many places leaves a word as it is if the size divides their number.
                many = abs(by) * times
                self.assertEqual(back_sizes(Program("roll %d" % by), times),
                                 only_sizes([k for k in range(1, many + 1) if many % k == 0]), (by, times))
            for text in ("turn", "swap", "flip 2 of 3", "flip last", "gather", "spread", "near 1 at 1 of 2"):
                found = back_sizes(Program(text), times)
                self.assertIs(found.is_all(), times % 2 == 0)
                if times % 2 == 1:
                    self.assertFalse(found.is_endless())
            odd = sizes_rest(1, 2) if times % 2 == 0 and times % 4 else no_sizes()
            expected = all_sizes() if times % 4 == 0 else odd
            if times % 2 == 0:
                self.assertEqual(back_sizes(Program("flip 0 of 2 then turn"), times), expected, times)
        self.assertEqual(back_sizes(Program("deal"), 2), sizes_upto(4))
        self.assertEqual(back_sizes(Program("undeal"), 2), sizes_upto(4))

    def test_far_words(self):
        random = Random(124)
        for text in ("flip 0 of 2 then turn", "near 1 at 1 of 2", "roll 3 then turn", "turn then flip 1 of 3", "swap",
                     "roll 2 then turn then flip 0 of 4", "near 1 then turn", "swap then roll 1"):
            program = Program(text)
            for times in range(1, 5 // len(program) + 1):
                found = back_sizes(program, times)
                for k in far_sizes(random, 3):
                    word = Marks(k, runs_at(random, k, 5))
                    result = word
                    for _ in range(times):
                        result = behind(program, result)
                    if result != word:
                        self.assertNotIn(k, found, (text, times, k))

    def test_no_bounds_of_programs(self):
        """More than five steps, and more than two deals, may stand one behind the other."""
        self.assertEqual(back_sizes(Program("turn then turn then swap then swap then turn"), 8), all_sizes())
        self.assertEqual(back_sizes(Program("deal then undeal"), 8), all_sizes())
        self.assertEqual(back_sizes(Program("near 1 then near 1 then near 1 then near 1 then near 1"), 8), sizes_upto(8))
        self.assertEqual(back_sizes(Program(""), 8), all_sizes())

    def test_refused(self):
        for text, times, good in REFUSED:
            program = Program(text)
            for many in range(1, 9):
                if many < times:
                    self.check(text, many)
                else:
                    self.refused(TooLarge, "most", 60, back_sizes, program, many)
            self.assertEqual(good, times - 1)

    def test_refused_just_like_tables(self):
        for text in program_texts(125, 150, 2):
            for times in (1, 2):
                longer = put(*[text] * times)
                if longer.count("deal") <= 2:
                    try:
                        Table(Program(longer))
                    except TooLarge:
                        self.refused(TooLarge, "most", 60, back_sizes, Program(text), times)
                    else:
                        self.check(text, times)

    def test_states_by_plain_doing(self):
        """The 60 states that may be, and the 61st that may not, by a second way of counting them."""
        self.assertEqual(plain_states(put(*["near 3 at 0 of 3 then spread"] * 3), 3), 60)
        back_sizes(Program("near 3 at 0 of 3 then spread"), 3)
        self.assertGreater(plain_states(put(*["near 3 at 0 of 3 then spread"] * 3, "near 3 at 0 of 3"), 3), 60)
        self.refused(TooLarge, "most", 60, back_sizes, Program("near 3 at 0 of 3 then spread"), 4)

    def test_too_many_classes(self):
        """No set of these functions is known that has more than 400 classes, so fewer are allowed here."""
        roll, large = Program("roll 3"), Program("deal")
        calls = ((lambda program: back_sizes(program, 3)), (lambda program: takes_back_sizes(program * 2, program)),
                 lambda program: commute_sizes(program * 2, program if program == large else Program("turn")))
        for call in calls:
            most = len(call(roll).digit_rows)
            with patch("allwordlengths.sizes.MOST_CLASSES", most - 1):
                self.refused(TooMany, "most", most - 1, call, roll)
                self.refused(TooLarge, "most", 60, call, large)
            with patch("allwordlengths.sizes.MOST_CLASSES", most):
                self.assertIs(type(call(roll)), Sizes)

    def test_bad_times(self):
        for text in ("", "turn", *LARGE):
            for value in [*NO_INTEGERS, 0, -1, 9, K]:
                self.refused(BadNumber, "number", value, back_sizes, Program(text), value)

    def test_examples(self):
        self.assertEqual(back_sizes(Program("deal"), 2), only_sizes((1, 2, 3, 4)))
        self.assertEqual(back_sizes(Program("near 1"), 4), sizes_upto(4))
        self.assertEqual(back_sizes(Program("roll 3"), 2), only_sizes((1, 2, 3, 6)))
        self.assertEqual(back_sizes(Program("flip 0 of 2 then turn"), 2), sizes_rest(1, 2))
        self.assertEqual(commute_sizes(Program("turn"), Program("roll 1")), sizes_upto(2))
        self.assertEqual(takes_back_sizes(Program("near 1"), Program("sum 1")), all_sizes())


class TwoTest(PowersCase):
    """Point 35: commute_sizes and takes_back_sizes."""

    def check(self, one, other):
        first, second = Program(one), Program(other)
        found = commute_sizes(first, second)
        self.assertIs(type(found), Sizes)
        self.assertEqual(sizes_in(found, UPTO), [
            k for k in range(1, UPTO + 1) if are_alike(put(one, other), put(other, one), k)], (one, other))
        self.assertEqual(commute_sizes(second, first), found)
        for pair in ((one, other), (other, one)):
            found = takes_back_sizes(Program(pair[0]), Program(pair[1]))
            self.assertIs(type(found), Sizes)
            # What one takes back, the other takes back as well: each is the inverse at such a size.
            self.assertEqual(sizes_in(found, UPTO), [
                k for k in range(1, UPTO + 1) if are_alike(put(one, other), "", k)], (one, other))
        self.assertEqual([first.text, second.text], [one, other])

    def check_if_told(self, one, other):
        try:
            self.check(one, other)
        except TooLarge:
            self.check_refused((one, other), (other, one))

    def test_programs(self):
        for one, other in zip(program_texts(131, 70, 5), program_texts(132, 70, 5)):
            self.check_if_told(one, other)

    def test_steps(self):
        random = Random(133)
        for one in STEPS:
            for other in random.sample(STEPS, 2):
                self.check_if_told(one, other)

    def test_inverses(self):
        for text in [*STEPS[::3], *program_texts(134, 40, 5)]:
            program = Program(text)
            try:
                self.assertEqual(takes_back_sizes(program, ~program), all_sizes())
                self.assertEqual(takes_back_sizes(~program, program), all_sizes())
                self.assertEqual(commute_sizes(program, ~program), all_sizes())
            except TooLarge:
                back = (~program).text
                self.check_refused((text, back), (back, text))

    def test_powers_of_one_program(self):
        for text in ("near 1", "sum 2", "roll -1", "deal", "turn then flip 0 of 2", "near 1 at 0 of 3 then roll 1"):
            for one, other in ((1, 1), (1, 2), (2, 1), (1, -1), (2, -1), (2, 2), (-1, -2)):
                if text == "deal" and abs(one + other) > 2:
                    continue
                first, second = Program(text) * one, Program(text) * other
                self.assertEqual(commute_sizes(first, second), all_sizes(), (text, one, other))
        for one, other in REWRITTEN:
            self.assertEqual(takes_back_sizes(Program(one), ~Program(other)), all_sizes())

    def test_closed_rules(self):
        for one, other, expected in (
                ("turn", "roll 1", sizes_upto(2)), ("turn", "roll 2", only_sizes((1, 2, 4))),
                ("turn", "roll 3", only_sizes((1, 2, 3, 6))), ("roll 2", "roll -3", all_sizes()),
                ("near 1", "sum 3", all_sizes()), ("near 1", "near -1", only_sizes((1,))),
                ("turn", "flip 0 of 2", sizes_rest(1, 2)), ("turn", "flip 0 of 3", sizes_rest(1, 3)),
                ("turn", "flip 1 of 3", sizes_rest(0, 3) | only_sizes((1,))), ("flip 0 of 2", "flip last", all_sizes()),
                ("deal", "roll 1", sizes_upto(2)), ("roll 1", "flip last", only_sizes((1,))),
                ("roll 1", "flip 0 of 2 then flip 1 of 2", all_sizes()), ("gather", "spread", only_sizes((1,)))):
            self.assertEqual(commute_sizes(Program(one), Program(other)), expected, (one, other))
            self.assertEqual(commute_sizes(Program(other), Program(one)), expected, (one, other))
        for one, other, expected in (
                ("near 1", "near 1", sizes_upto(2)), ("near 2", "near 2", sizes_upto(4)), ("turn", "swap", sizes_upto(2)),
                ("roll 1", "roll 2", only_sizes((1, 3))), ("roll 3", "roll 3", only_sizes((1, 2, 3, 6))),
                ("deal", "deal", sizes_upto(4)), ("flip first", "flip last", only_sizes((1,))),
                ("flip 0 of 2", "flip 1 of 2", no_sizes()), ("turn then flip last", "flip last then turn", all_sizes())):
            self.assertEqual(takes_back_sizes(Program(one), Program(other)), expected, (one, other))

    def test_far_words(self):
        random = Random(135)
        for one, other in zip(program_texts(136, 60, 2), program_texts(137, 60, 2)):
            try:
                found = commute_sizes(Program(one), Program(other))
            except TooLarge:
                continue
            for k in random.sample(far_sizes(random, 3), 2):
                word = Marks(k, runs_at(random, k, 6))
                if behind(Program(other), behind(Program(one), word)) != behind(Program(one), behind(Program(other), word)):
                    self.assertNotIn(k, found, (one, other))

    def test_refused(self):
        for good, bad in ONE_WAY:
            one, other = Program(good), Program(bad)
            self.assertIs(type(takes_back_sizes(one, other)), Sizes)
            self.refused(TooLarge, "most", 60, takes_back_sizes, other, one)
            self.refused(TooLarge, "most", 60, commute_sizes, one, other)
            self.refused(TooLarge, "most", 60, commute_sizes, other, one)
        for text in LARGE:
            for pair in ((Program(text), Program("")), (Program(""), Program(text))):
                self.refused(TooLarge, "most", 60, commute_sizes, *pair)
                self.refused(TooLarge, "most", 60, takes_back_sizes, *pair)

    def test_small_wholes_with_large_beginnings(self):
        """What counts are the first ones of the steps, also if all of them make a small machine."""
        large = Program("sum -3 at 2 of 3 then sum 3 at 2 of 3")
        self.refused(TooLarge, "most", 60, takes_back_sizes, large, ~large)
        self.refused(TooLarge, "most", 60, back_sizes, Program("deal then deal then turn"), 2)

    def test_names_of_arguments(self):
        self.assertEqual(back_sizes(program=Program("near 1"), times=2), sizes_upto(2))
        self.assertEqual(commute_sizes(one=Program("turn"), other=Program("roll 1")), sizes_upto(2))
        self.assertEqual(takes_back_sizes(one=Program("turn"), other=Program("turn")), all_sizes())


if __name__ == "__main__":
    unittest.main()

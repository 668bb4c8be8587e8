"""Point 36: the sums of choices of places."""

import unittest
from random import Random
from unittest.mock import patch

from allwordlengths.errors import BadChoice, TooLarge, TooMany
from allwordlengths.kept import kept_sizes, turned_sizes
from allwordlengths.marks import Marks
from allwordlengths.programs import Program
from allwordlengths.sizes import Sizes, all_sizes, no_sizes, only_sizes, sizes_from, sizes_rest, sizes_upto
from allwordlengths.walks import Parity
from cases import LARGE, NO_INTEGERS, Case, K, far_sizes, is_refused
from plain import CHOICES, chosen_places, combined, expected_steps, plain_table, program_texts

UPTO = 9
STEPS = ["", *expected_steps()]
FLIPS = [text for text, parts in expected_steps().items() if parts[0].startswith("flip")]


def plain_sum(text, choice, k):
    """The places on which the sum of a choice hangs, as bits 1, less those of the choice, and its flip."""
    rows = plain_table(text, k)
    places = chosen_places(choice, k)
    own = sum(1 << place for place in places)
    return combined([rows[place][0] for place in places]) ^ own, sum(rows[place][1] for place in places) % 2


def marks_of_choice(choice, k):
    """The Marks of the places of a choice at any size."""
    if choice == "all":
        return Marks(k, ((0, k - 1, 1),))
    if choice in ("first", "last"):
        place = 0 if choice == "first" else k - 1
        return Marks(k, ((place, place, 1),))
    at, of = [int(part) for part in choice.split(" of ")]
    return Marks(k, ((at, k - 1, of),) if at < k else ())


def many_in_both(one, other, k):
    """How many places below k stand in two choices, counted by the remainders by 12 and at both ends."""
    def told(place):
        return all(place == 0 if choice == "first" else place == k - 1 if choice == "last" else choice == "all"
                   or place % int(choice[-1]) == int(choice[0]) for choice in (one, other))
    if "first" in (one, other) or "last" in (one, other):
        return sum(told(place) for place in {0, k - 1})
    return sum((k - 1 - rest) // 12 + 1 for rest in range(min(12, k)) if told(rest))


class SmallTest(Case):
    """Against plain doing at the sizes 1 to 9."""

    def check(self, text, choice):
        program = Program(text)
        kept, turned = kept_sizes(program, choice), turned_sizes(program, choice)
        self.assertEqual([type(kept), type(turned)], [Sizes, Sizes])
        for k in range(1, UPTO + 1):
            found = plain_sum(text, choice, k)
            self.assertIs(k in kept, found == (0, 0), (text, choice, k))
            self.assertIs(k in turned, found == (0, 1), (text, choice, k))
        self.assertTrue((kept & turned).is_none())
        self.assertEqual(program.text, text)

    def test_steps(self):
        for at, text in enumerate(STEPS):
            for choice in CHOICES[at % 2::2]:
                self.check(text, choice)

    def test_programs(self):
        for text in program_texts(141, 45, 5):
            for choice in CHOICES:
                try:
                    self.check(text, choice)
                except TooLarge:
                    self.assertTrue(is_refused(text), text)

    def test_words(self):
        """By doing words without a single pattern, not by what bits hang on."""
        for text in ("flip 0 of 2", "near 1 then flip last", "gather then flip 1 of 3", "swap then flip 0 of 4", "spread"):
            program = Program(text)
            for choice in CHOICES:
                for k in range(1, 7):
                    words = [[number >> place & 1 for place in range(k)] for number in range(2 ** k)]
                    changes = {sum(word[i] ^ result[i] for i in chosen_places(choice, k)) % 2
                               for word, result in [(word, program.done(word)) for word in words]}
                    self.assertIs(k in kept_sizes(program, choice), changes == {0}, (text, choice, k))
                    self.assertIs(k in turned_sizes(program, choice), changes == {1}, (text, choice, k))


class FarTest(Case):
    """At far sizes, by counting, by closed rules and by parities that are taken back."""

    def test_flips_by_counting(self):
        random = Random(142)
        for text in FLIPS:
            for choice in CHOICES:
                program = Program(text)
                kept, turned = kept_sizes(program, choice), turned_sizes(program, choice)
                self.assertEqual(~kept, turned)
                for k in [*range(1, 30), *far_sizes(random, 10)]:
                    odd = many_in_both(text[5:], choice, k) % 2 == 1
                    self.assertIs(k in turned, odd, (text, choice, k))
                    self.assertIs(k in kept, not odd)

    def test_flips_behind_each_other(self):
        random = Random(143)
        for _ in range(60):
            texts = random.sample(FLIPS, 3)
            program = Program(" then ".join(texts))
            for choice in random.sample(CHOICES, 3):
                turned = turned_sizes(program, choice)
                for k in far_sizes(random, 5):
                    many = sum(many_in_both(text[5:], choice, k) for text in texts)
                    self.assertIs(k in turned, many % 2 == 1, (texts, choice, k))

    def test_moves_by_closed_rules(self):
        odd, even = sizes_rest(1, 2), sizes_rest(0, 2)
        for text, choice, expected in (
                ("turn", "all", all_sizes()), ("turn", "0 of 2", odd), ("turn", "1 of 2", odd), ("turn", "first", only_sizes((1,))),
                ("turn", "0 of 3", sizes_rest(1, 3)), ("turn", "1 of 3", sizes_rest(0, 3) | only_sizes((1,))),
                ("turn", "2 of 3", sizes_rest(2, 3) | sizes_upto(2)),
                ("roll 1", "all", all_sizes()), ("roll 1", "0 of 2", only_sizes((1,))), ("roll 1", "3 of 4", sizes_upto(3)),
                ("roll 2", "0 of 2", even | only_sizes((1,))), ("roll -3", "2 of 3", sizes_rest(0, 3) | sizes_upto(2)),
                ("roll 3", "last", only_sizes((1, 3))), ("swap", "all", all_sizes()), ("swap", "first", only_sizes((1,))),
                ("swap", "last", odd), ("deal", "first", all_sizes()), ("deal", "last", even | only_sizes((1,))),
                ("roll 1 then roll -1", "1 of 4", all_sizes()), ("flip first", "last", sizes_from(2))):
            found = kept_sizes(Program(text), choice)
            self.assertEqual(found, expected, (text, choice))
            self.assertTrue(turned_sizes(Program(text), choice).within(~found))

    def test_programs_by_parities(self):
        random = Random(144)
        for text in program_texts(145, 70, 5):
            program = Program(text)
            choice = random.choice(CHOICES)
            try:
                kept, turned = kept_sizes(program, choice), turned_sizes(program, choice)
            except TooLarge:
                continue
            for k in far_sizes(random, 4):
                parity = Parity(marks_of_choice(choice, k))
                back = parity.back(program)
                self.assertIs(k in kept, parity.is_kept(program), (text, choice, k))
                self.assertIs(k in turned, back.marks == parity.marks and back.plus == 1, (text, choice, k))

    def test_no_such_places(self):
        for text in ("turn", "flip first then near 1", "gather", "flip last", "roll 3 then flip 0 of 2"):
            for choice in CHOICES[3:]:
                kept = kept_sizes(Program(text), choice)
                self.assertTrue(only_sizes(range(1, int(choice[0]) + 1)).within(kept), (text, choice))
                self.assertTrue((sizes_upto(int(choice[0]) + 1) & turned_sizes(Program(text), choice)).within(
                    only_sizes((int(choice[0]) + 1,))))

    def test_examples(self):
        self.assertEqual(kept_sizes(Program("turn"), "all"), all_sizes())
        self.assertEqual(kept_sizes(Program("turn"), "0 of 2"), sizes_rest(1, 2))
        self.assertEqual(kept_sizes(Program("near 1"), "all"), only_sizes((1,)))
        self.assertEqual(turned_sizes(Program("near 1"), "all"), no_sizes())
        turned = sizes_rest(1, 4) | sizes_rest(2, 4)
        self.assertEqual(turned_sizes(Program("flip 0 of 2"), "all"), turned)
        self.assertEqual(kept_sizes(Program("flip 0 of 2"), "all"), ~turned)
        self.assertEqual(kept_sizes(Program("spread"), "first"), all_sizes())
        self.assertEqual(kept_sizes(Program("spread"), "all"), sizes_rest(1, 2))


class RefusedTest(Case):
    """Point 36: what is no choice."""

    BAD = [*NO_INTEGERS, 0, 1, (0, 2), [0, 2], "All", "all ", " all", "all\n", "first ", "last of all", "none", "odd",
           "0of2", "0 of  2", " 0 of 2", "0 of 2 ", "0  of 2", "0\tof 2", "0 of 2\n", "2 of 2", "3 of 3", "4 of 4",
           "0 of 1", "0 of 5", "4 of 5", "-1 of 2", "00 of 2", "+0 of 2", "0 of 02", "0 of -2", "0 of", "of 2", "1 OF 2",
           "0 of 2 of 2", "\u0660 of 2", "flip 0 of 2", "flip first", "0 of 12", ["all"], ("first",)]

    def test_bad_choices(self):
        for text in ("", "near 1", *LARGE):
            for value in self.BAD:
                for call in (kept_sizes, turned_sizes):
                    self.refused(BadChoice, "choice", value, call, Program(text), value)

    def test_too_large(self):
        for text in LARGE:
            for choice in CHOICES:
                for call in (kept_sizes, turned_sizes):
                    self.refused(TooLarge, "most", 60, call, Program(text), choice)

    def test_too_many_classes(self):
        """No set of these functions is known that has more than 400 classes, so fewer are allowed here."""
        program = Program("flip 1 of 3 then turn")
        for call, choice in ((kept_sizes, "0 of 3"), (turned_sizes, "first")):
            most = len(call(program, choice).digit_rows)
            with patch("allwordlengths.sizes.MOST_CLASSES", most - 1):
                self.refused(TooMany, "most", most - 1, call, program, choice)
                self.refused(TooLarge, "most", 60, call, Program(LARGE[0]), choice)
                self.refused(BadChoice, "choice", "none", call, Program(LARGE[0]), "none")
            with patch("allwordlengths.sizes.MOST_CLASSES", most):
                self.assertIs(type(call(program, choice)), Sizes)

    def test_names_of_arguments(self):
        self.assertEqual(kept_sizes(program=Program("turn"), choice="0 of 2"), sizes_rest(1, 2))
        self.assertEqual(turned_sizes(program=Program("flip last"), choice="last"), all_sizes())


if __name__ == "__main__":
    unittest.main()

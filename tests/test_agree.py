import unittest
from random import Random

from allwordlengths.agree import agree_sizes, zero_sizes
from allwordlengths.errors import TooLarge
from allwordlengths.programs import Program
from allwordlengths.sizes import (
    Sizes, all_sizes, no_sizes, only_sizes, sizes_from, sizes_rest, sizes_upto,
)
from allwordlengths.tables import Table
from cases import Case, K
from plain import expected_steps, plain_table, program_texts

STEPS = ["", *expected_steps()]
FLIPS = [text for text, parts in expected_steps().items() if parts[0].startswith("flip")]


def table_of(text):
    return Table(Program(text))


def plain_sizes(one, other, part, upto):
    """The sizes at which two programs have the same places (part 0) or flips (part 1), by doing them."""
    return [k for k in range(1, upto + 1)
            if [row[part] for row in plain_table(one, k)] == [row[part] for row in plain_table(other, k)]]


class AgreeTest(Case):
    """Point 31: sizes at which machines agree, or are 0."""

    def check(self, one, other, upto=12):
        first, second = table_of(one), table_of(other)
        for part, pair in ((0, (first.machine, second.machine)), (1, (first.flip_machine, second.flip_machine))):
            found = agree_sizes(*pair)
            self.assertIs(type(found), Sizes)
            self.assertEqual(list(found.each(1, upto)), plain_sizes(one, other, part, upto), (one, other, part))
            self.assertEqual(agree_sizes(*pair[::-1]), found)
            self.assertNotIn(0, found)

    def test_steps(self):
        random = Random(81)
        for one in STEPS:
            for other in random.sample(STEPS, 6):
                self.check(one, other)

    def test_programs(self):
        for one, other in zip(program_texts(82, 60, 3), program_texts(83, 60, 3)):
            try:
                self.check(one, other)
            except TooLarge:
                self.assertTrue("deal" in one + other or "sum" in one + other)

    def test_programs_that_are_nearly_the_same(self):
        for text in program_texts(84, 50, 2):
            for more in ("flip last then roll 2", "roll 3", "deal then undeal", "near 3 then sum 2"):
                try:
                    self.check(text, text + " then " + more)
                except TooLarge:
                    self.assertTrue("deal" in text + more or "sum" in text + more)
                except ValueError:
                    self.assertGreater((text + more).count("deal"), 2)

    def test_sizes_to_forty(self):
        for one, other in (("turn", "swap"), ("deal then deal", ""), ("near 3", "sum 3"), ("roll 3 then roll 3", ""),
                           ("deal", "roll -1"), ("near 3 at 1 of 4", "near -3 at 0 of 4"), ("gather", "near 2"),
                           ("flip 0 of 3", "turn then flip 0 of 3 then turn"), ("spread", "turn then spread then turn")):
            self.check(one, other, 40)

    def test_zero(self):
        for text in [*STEPS, *[one + " then " + other for one in FLIPS for other in FLIPS[::2] + ["turn", "roll 2"]]]:
            table = table_of(text)
            self.assertEqual(zero_sizes(table.machine), no_sizes())
            found = zero_sizes(table.flip_machine)
            self.assertIs(type(found), Sizes)
            self.assertEqual(list(found.each(1, 14)), [
                k for k in range(1, 15) if not any(flip for _, flip in plain_table(text, k))], text)

    def test_the_same_machine(self):
        for text in STEPS:
            table = table_of(text)
            self.assertEqual(agree_sizes(table.machine, table_of(text).machine), all_sizes())
            self.assertEqual(agree_sizes(table.flip_machine, table.flip_machine), all_sizes())
            self.assertEqual(agree_sizes(table.flip_machine, table_of("").flip_machine), zero_sizes(table.flip_machine))

    def test_tables_that_are_known(self):
        for one, other, sizes in (
                ("roll 1", "", only_sizes((1,))), ("roll 2", "", sizes_upto(2)), ("roll 3", "", only_sizes((1, 3))),
                ("roll 3", "roll -3", only_sizes((1, 2, 3, 6))), ("roll 2", "roll -2", only_sizes((1, 2, 4))),
                ("near 1", "", only_sizes((1,))), ("near 2", "", sizes_upto(2)), ("near -3", "", sizes_upto(3)),
                ("near 1", "sum 1", sizes_upto(2)), ("near 2", "sum 2", sizes_upto(4)),
                ("near 3", "sum 3", sizes_upto(6)), ("turn", "", only_sizes((1,))), ("turn", "swap", sizes_upto(2)),
                ("deal then deal", "", sizes_upto(4)), ("deal", "undeal", sizes_upto(4)), ("flip first", "", all_sizes()),
                ("deal then roll 1", "roll 1 then deal", only_sizes((1, 2))), ("near 3 at 2 of 4", "", sizes_upto(5)),
                ("near -3 at 2 of 4", "", sizes_upto(6)), ("near 1 at 3 of 4", "", sizes_upto(4)),
                ("gather", "near 1", sizes_upto(2)), ("turn then near 1", "near -1 then turn", all_sizes()),
                ("sum 2 at 0 of 2 then sum 2 at 1 of 2", "sum 2", all_sizes())):
            self.assertEqual(agree_sizes(table_of(one).machine, table_of(other).machine), sizes, (one, other))

    def test_flips_that_are_known(self):
        for one, other, sizes in (
                ("flip first", "flip last", only_sizes((1,))), ("flip 0 of 2", "flip first", sizes_upto(2)),
                ("flip 0 of 3", "flip first", sizes_upto(3)), ("flip 3 of 4", "", sizes_upto(3)),
                ("flip last", "flip 2 of 3", only_sizes((3,))), ("flip last", "flip 3 of 4", only_sizes((4,))),
                ("flip last", "flip 0 of 2", only_sizes((1,))), ("flip last", "flip 1 of 2", only_sizes((2,))),
                ("flip 0 of 2", "flip 1 of 2", no_sizes()), ("turn then flip last", "flip first then turn", all_sizes()),
                ("flip 0 of 2", "flip 0 of 2 then turn", sizes_rest(1, 2)),
                ("flip 1 of 3 then turn", "flip 1 of 3", sizes_rest(0, 3) | only_sizes((1,))),
                ("flip 0 of 3 then turn", "flip 0 of 3", sizes_rest(1, 3)),
                ("flip first then near -1", "flip 0 of 2 then near -2", only_sizes((1,))),
                ("flip 0 of 2 then flip 0 of 4", "flip 2 of 4", all_sizes())):
            first, second = table_of(one).flip_machine, table_of(other).flip_machine
            self.assertEqual(agree_sizes(first, second), sizes, (one, other))

    def test_no_size_is_tried(self):
        found = agree_sizes(table_of("flip 0 of 4 then turn").flip_machine, table_of("flip 0 of 4").flip_machine)
        self.assertEqual(found, sizes_rest(1, 4))
        self.assertEqual(found.last_upto(K), K - 3)
        self.assertEqual(agree_sizes(table_of("flip first").flip_machine, table_of("roll 1").flip_machine), no_sizes())
        self.assertEqual(agree_sizes(table_of("near 3").machine, table_of("roll -3").machine), only_sizes((1, 3)))
        self.assertEqual(~agree_sizes(table_of("near 3").machine, table_of("").machine), sizes_from(4))

    def test_they_are_not_changed(self):
        one, other = table_of("near 1 then flip 0 of 2"), table_of("sum 1 then flip last")
        agree_sizes(one.machine, other.machine)
        zero_sizes(one.flip_machine)
        self.assertEqual([one, other], [table_of("near 1 then flip 0 of 2"), table_of("sum 1 then flip last")])

    def test_examples(self):
        self.assertEqual(agree_sizes(table_of("roll 1").machine, table_of("").machine), only_sizes((1,)))
        self.assertEqual(zero_sizes(table_of("flip 0 of 2 then turn then flip 0 of 2").flip_machine), sizes_rest(1, 2))


if __name__ == "__main__":
    unittest.main()

"""The whole program: what different modules tell of one question is the same, at small sizes and to 10 ** 30."""

import unittest
from random import Random

from allwordlengths.bench import Bench
from allwordlengths.compare import alike, alike_at, apart_sizes, first_apart
from allwordlengths.errors import TooLarge
from allwordlengths.hanging import flipped_sizes, hangs_sizes, same_bit_sizes
from allwordlengths.kept import kept_sizes, turned_sizes
from allwordlengths.marks import Marks
from allwordlengths.places import comes_from, flips_on_way, goes_to, place_after
from allwordlengths.powers import back_sizes, commute_sizes, takes_back_sizes
from allwordlengths.programs import Program
from allwordlengths.shortest import shortest
from allwordlengths.sizes import sizes_from
from allwordlengths.tables import Table
from allwordlengths.told import agreed_sizes, candidates, fits, question
from allwordlengths.walks import Parity, behind, bit_at, hangs_on
from cases import REWRITTEN, Case, K, far_sizes
from counted import runs_at
from plain import expected_steps, hung_on, program_texts, scattered

STEPS = list(expected_steps())
MOVES = ("turn", "roll", "deal", "undeal", "swap", "flip", "flip first", "flip last")
EMPTY = Program("")


def programs(seed, many, most, kinds=None):
    """Programs without a pattern whose tables, and those of their inverses, are not refused."""
    found = []
    for text in program_texts(seed, many, most, kinds):
        program = Program(text)
        try:
            Table(program)
            Table(~program)
        except TooLarge:
            continue
        found.append(program)
    return found


def some_places(random, k):
    return {0, k - 1, k // 2, random.randrange(k), random.randrange(min(k, 100)), k - 1 - random.randrange(min(k, 100))}


class BitsTest(Case):
    """Tables, walks, places and hanging tell of the same bits."""

    def test_tables_and_walks(self):
        random = Random(201)
        for program in programs(202, 50, 5):
            table = Table(program)
            for k in [random.randint(1, 30), *random.sample(far_sizes(random, 3), 2)]:
                for i in list(some_places(random, k))[:3]:
                    parity = bit_at(k, i).back(program)
                    self.assertEqual(table.flip(i, k), parity.plus, (program.text, i, k))
                    for j in (*some_places(random, k), i, max(i - 3, 0), min(i + 2, k - 1)):
                        self.assertEqual(table.at(i, j, k), int(j in parity.marks), (program.text, i, j, k))
                        self.assertEqual(table.next_in_row(i, k, j), parity.marks.next_from(j))
                    if parity.marks.many() <= 20:
                        self.assertEqual((table.row(i, k, 20), table.flip(i, k)), hangs_on(program, k, i, 20))

    def test_columns_and_words(self):
        """A word with the bit 1 at one place, less the word without, is the column of this place."""
        random = Random(203)
        for program in programs(204, 40, 4):
            table = Table(program)
            for k in [random.randint(1, 30), *random.sample(far_sizes(random, 3), 1)]:
                nothing = behind(program, Marks(k))
                for j in list(some_places(random, k))[:3]:
                    changed = behind(program, Marks(k, ((j, j, 1),))) ^ nothing
                    for low in (0, j, k - 1):
                        self.assertEqual(table.next_in_column(j, k, low), changed.next_from(low), (program.text, j, k))
                for i in some_places(random, k):
                    self.assertEqual(table.flip(i, k), int(i in nothing))

    def test_hanging_and_tables(self):
        random = Random(205)
        for program in programs(206, 60, 5):
            table = Table(program)
            i, j = random.randint(-100, 99), random.choice([random.randint(-100, 99), random.randint(-3, 3)])
            hangs, flipped = hangs_sizes(program, i, j), flipped_sizes(program, i)
            for k in [*range(1, 12), *range(95, 105), 200, *far_sizes(random, 4)]:
                places = [place if place >= 0 else k + place for place in (i, j)]
                inside = [0 <= place < k for place in places]
                self.assertIs(k in hangs, all(inside) and table.at(*places, k) == 1, (program.text, i, j, k))
                self.assertIs(k in flipped, inside[0] and table.flip(places[0], k) == 1)

    def test_places_and_all_others(self):
        random = Random(207)
        for program in programs(208, 40, 5, MOVES):
            table = Table(program)
            for k in [random.randint(1, 30), *random.sample(far_sizes(random, 3), 2)]:
                for j in some_places(random, k):
                    i, flip = goes_to(program, k, j), flips_on_way(program, k, j)
                    self.assertEqual((table.row(i, k, 1), table.column(j, k, 1), table.flip(i, k)), ((j,), (i,), flip))
                    self.assertEqual(hangs_on(program, k, i, 1), ((j,), flip))
                    self.assertEqual(hung_on(program.text, k, i), ((j,), flip))
                    self.assertEqual(comes_from(program, k, i), j)
                    if j < 100:
                        self.assertIs(k in hangs_sizes(program, min(i, 99), j), i < 100)

    def test_places_and_powers(self):
        random = Random(209)
        for program in programs(210, 30, 3, MOVES):
            for times in (2, 3, 5):
                try:
                    back = back_sizes(program, times)
                except TooLarge:
                    continue
                for k in [*range(1, 9), *far_sizes(random, 3)]:
                    stays = [place_after(program, k, j, times) == j for j in some_places(random, k)]
                    if k in back:
                        self.assertTrue(all(stays), (program.text, times, k))


class SizesTest(Case):
    """Compare, powers, kept, hanging, told and bench tell the same sets of sizes."""

    def test_compare_and_powers(self):
        found = programs(211, 60, 3)
        for one, other in zip(found, found[1:]):
            apart = apart_sizes(one, other)
            self.assertEqual(agreed_sizes([one, other]), ~apart)
            self.assertIs(alike(one, other), apart.is_none())
            try:
                self.assertEqual(takes_back_sizes(one, ~other), ~apart, (one.text, other.text))
                self.assertEqual(takes_back_sizes(~one, other), ~apart)
                together = commute_sizes(one, other)
                if len(one) + len(other) <= 5 and (one.text + other.text).count("deal") <= 2:
                    self.assertEqual(together, ~apart_sizes(one + other, other + one))
                # Where both take each other back, they commute; where they commute, so do their inverses.
                self.assertTrue(takes_back_sizes(one, other).within(together))
                self.assertEqual(commute_sizes(~one, ~other), together)
            except TooLarge:
                continue

    def test_powers_of_one_program(self):
        for program in programs(212, 50, 3):
            self.assertEqual(back_sizes(program, 1), ~apart_sizes(program, EMPTY))
            try:
                twice = back_sizes(program, 2)
                self.assertEqual(twice, takes_back_sizes(program, program))
                self.assertEqual(twice, ~apart_sizes(program, ~program))
                self.assertTrue(back_sizes(program, 1).within(twice))
                self.assertTrue((twice & back_sizes(program, 3)).within(back_sizes(program, 1)))
                self.assertTrue(twice.within(back_sizes(program, 4)))
            except TooLarge:
                continue

    def test_kept_and_hanging(self):
        for program in programs(213, 60, 5):
            for choice, place in (("first", 0), ("last", -1)):
                kept = kept_sizes(program, choice)
                self.assertEqual(kept, same_bit_sizes(program, place, EMPTY, place), (program.text, choice))
                self.assertEqual(turned_sizes(program, choice), same_bit_sizes(program, place, Program("flip " + choice), place))
                self.assertTrue(kept.within(hangs_sizes(program, place, place)))
                self.assertTrue(turned_sizes(program, choice).within(flipped_sizes(program, place)))
                self.assertTrue((kept & flipped_sizes(program, place)).is_none())

    def test_kept_and_parities(self):
        random = Random(214)
        for program in programs(215, 50, 5):
            at, of = random.choice([(at, of) for of in (2, 3, 4) for at in range(of)])
            kept = kept_sizes(program, "%d of %d" % (at, of))
            for k in [*range(1, 9), *far_sizes(random, 3)]:
                parity = Parity(Marks(k, ((at, k - 1, of),) if at < k else ()))
                self.assertIs(k in kept, parity.is_kept(program), (program.text, at, of, k))

    def test_compare_and_bits(self):
        random = Random(216)
        found = programs(217, 50, 4)
        pairs = [*zip(found, found[1:]), *[(Program(one), Program(other)) for one, other in REWRITTEN]]
        for one, other in pairs:
            first = first_apart(one, other)
            if first is not None:
                k, i, j = first
                self.assertEqual(apart_sizes(one, other).least(), k)
                self.assertFalse(alike_at(one, other, k))
                if i < 100:
                    self.assertNotIn(k, same_bit_sizes(one, i, other, i))
                for low in range(min(i, 100)):
                    self.assertIn(k, same_bit_sizes(one, low, other, low))
                tables = Table(one), Table(other)
                self.assertEqual([table.flip(i, k) for table in tables] in ([0, 1], [1, 0]), j is None)
                if j is not None:
                    self.assertNotEqual(*[table.at(i, j, k) for table in tables])
            # Programs that are alike at a size have the same bits there, and make the same words.
            i = random.choice([0, -1, 5, -40])
            same = same_bit_sizes(one, i, other, i)
            has = sizes_from(i + 1 if i >= 0 else -i)
            self.assertTrue((has - apart_sizes(one, other)).within(same))
            for k in far_sizes(random, 2):
                word = Marks(k, runs_at(random, k, 5))
                if alike_at(one, other, k):
                    self.assertEqual(behind(one, word), behind(other, word))

    def test_bench_and_the_others(self):
        random = Random(218)
        told = programs(219, 60, 2)
        for _ in range(5):
            found = random.sample(told, 5)
            bench = Bench()
            for number, program in enumerate(found + found[:2]):
                bench["abcdefgh"[number]] = program
            for k in (1, 2, 3, random.randint(4, 50), K, K - 1):
                groups = bench.groups_at(k)
                self.assertEqual(len(groups) == 1, k in agreed_sizes(found))
                for group in groups:
                    for name in bench:
                        self.assertIs(name in group, alike_at(bench[group[0]], bench[name], k))
            for group in bench.groups():
                self.assertIsNone(question([bench[name] for name in group]))
                self.assertEqual([name for name in bench if alike(bench[name], bench[group[0]])], list(group))

    def test_told_and_the_others(self):
        random = Random(220)
        for _ in range(15):
            steps = random.sample(STEPS, 3)
            found = candidates(steps, 2, ())
            for place, one in enumerate(found):
                self.assertEqual(shortest(one, steps, 2), one)
                self.assertFalse(any(alike(one, other) for other in found[:place]))
            word = question(found)
            if word is not None:
                self.assertEqual(len(word), (~agreed_sizes(found)).least())
            one = random.choice(found)
            look = one.done(scattered(12, random.randint(1, 10 ** 6)))
            self.assertIs(fits(one, [(scattered(12, 7), one.done(scattered(12, 7)))]), True)
            self.assertEqual(len(look), 12)


if __name__ == "__main__":
    unittest.main()

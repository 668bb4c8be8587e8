import time
import unittest
from itertools import product
from math import comb
from random import Random
from unittest.mock import ANY

from allwordlengths.errors import BadNumber, BadSize, TooLarge, TooMany
from allwordlengths.marks import Marks
from allwordlengths.programs import Program
from allwordlengths.walks import Parity, behind, bit_at, far_trace, hangs_on
from cases import NO_INTEGERS, Case, K
from counted import ends_of, is_marked, many_between, many_marked, runs_at
from plain import expected_steps, hung_on, odd_values, plain_table, program_texts, words_upto

EXPECTED = expected_steps()
FEW = ("turn", "roll", "deal", "undeal", "swap", "near", "spread", "flip", "flip first", "flip last")
TEXTS = ["", *EXPECTED, *program_texts(21, 150, 5)]
FEW_TEXTS = [*[text for text, parts in EXPECTED.items() if parts[0] in FEW], *program_texts(22, 100, 5, FEW)]
SUMS = [text for text, parts in EXPECTED.items() if parts[0] == "sum"]
LARGE = (2 ** 97 + 1, K - 1, K)


def looked_at(size, ends):
    """Places of a large size at and near breaks, and some others."""
    edges = {0, size, size // 2, (size + 1) // 2, size // 3, size // 4, *ends, *[end // 2 for end in ends]}
    return sorted({edge + beside for edge in edges for beside in (-13, -7, -3, -2, -1, 0, 1, 2, 3, 5, 12)
                   if 0 <= edge + beside < size})


class BehindTest(Case):
    """Point 14: words of bits of any size behind a program."""

    def test_all_small_words(self):
        words = words_upto(6)
        for text in TEXTS:
            program = Program(text)
            for word in words:
                marks = Marks.of_bits(word)
                self.assertEqual([found.as_bits() for found in far_trace(program, marks)],
                                 list(program.trace(word)), (text, word))
                self.assertEqual(behind(program, marks).as_bits(), program.done(word))

    def test_runs(self):
        random = Random(23)
        for text in TEXTS:
            program = Program(text)
            for size in (7, 8, 23, 24, 25, 60, 97, 401):
                marks = Marks(size, runs_at(random, size, random.randint(0, 6)))
                word = marks.as_bits()
                self.assertEqual([found.as_bits() for found in far_trace(program, marks)],
                                 list(program.trace(word)), (text, word))

    def test_a_thousand_bits(self):
        random = Random(24)
        for text in program_texts(25, 80, 5):
            program = Program(text)
            for size in (999, 1000):
                marks = Marks(size, runs_at(random, size, 20))
                self.assertEqual(behind(program, marks).as_bits(), program.done(marks.as_bits()), text)

    def test_few_places_at_large_sizes(self):
        random = Random(26)
        for text in FEW_TEXTS:
            program = Program(text)
            for size in LARGE:
                runs = runs_at(random, size, random.randint(1, 5))
                found = behind(program, Marks(size, runs))
                for i in random.sample(looked_at(size, ends_of(runs)), 25):
                    places, flip = hung_on(text, size, i)
                    expected = (sum(is_marked(runs, j) for j in places) + flip) % 2 == 1
                    self.assertIs(i in found, expected, (text, size, runs, i))

    def test_sums_at_large_sizes(self):
        random = Random(27)
        for text in SUMS:
            _, by, pair, _ = EXPECTED[text]
            at, of = pair or (0, 1)
            for size in LARGE:
                runs = runs_at(random, size, random.randint(1, 4))
                found = behind(Program(text), Marks(size, runs))
                for i in random.sample(looked_at(size, ends_of(runs)), 25):
                    low, high = (i, size) if by > 0 else (0, i + 1)
                    many = many_between(lambda j: is_marked(runs, j) and (j - i) % by == 0, ends_of(runs), low, high)
                    expected = many % 2 == 1 if i % of == at else is_marked(runs, i)
                    self.assertIs(i in found, expected, (text, size, runs, i))

    def test_gather_and_spread_at_large_sizes(self):
        random = Random(28)
        for size in LARGE:
            for many in (0, 1, 2, 3, 5, 20):
                runs = runs_at(random, size, many)
                marks = Marks(size, runs)
                first = Marks(size, ((0, 0, 1),))
                found = behind(Program("gather"), marks)
                self.assertIs(0 in found, many_marked(runs, 0, size) % 2 == 1)
                self.assertEqual(found - first, marks - first)
                found = behind(Program("spread"), marks)
                self.assertEqual(found, ~marks ^ first if is_marked(runs, 0) else marks)

    def test_sums_of_sums(self):
        random = Random(29)
        for by in (-3, -2, -1, 1, 2, 3):
            for many in range(1, 6):
                program = Program(" then ".join(["sum %d" % by] * many))
                for size in LARGE:
                    start = random.randrange(size)
                    found = behind(program, Marks(size, ((start, start, 1),)))
                    for further in [*range(40), *[random.randrange(size // 4) for _ in range(20)]]:
                        i = start - by * further
                        if 0 <= i < size:
                            self.assertIs(i in found, comb(further + many - 1, many - 1) % 2 == 1, (by, many, further))
                            if i + 1 != start and by not in (-1, 1) and 0 <= i + 1 < size:
                                self.assertNotIn(i + 1, found)

    def test_inverses_at_large_sizes(self):
        random = Random(30)
        for text in [*EXPECTED, *program_texts(31, 60, 2)]:
            program = Program(text)
            for size in LARGE:
                marks = Marks(size, runs_at(random, size, random.randint(1, 20)))
                self.assertEqual(behind(program - program, marks), marks, text)
                self.assertEqual(behind(~program, behind(program, marks)), marks, text)

    def test_sums_of_three_words(self):
        random = Random(32)
        for text in program_texts(33, 60, 5):
            program = Program(text)
            one, two, three = [Marks(K, runs_at(random, K, 3)) for _ in range(3)]
            self.assertEqual(behind(program, one ^ two ^ three),
                             behind(program, one) ^ behind(program, two) ^ behind(program, three))

    def test_trace(self):
        random = Random(34)
        for text in ["", *program_texts(35, 40, 5)]:
            program = Program(text)
            for size in (1, 30, K):
                marks = Marks(size, runs_at(random, size, 4))
                trace = far_trace(program, marks)
                self.assertIs(type(trace), tuple)
                self.assertEqual([found.depth for found in trace], list(range(len(program) + 1)))
                self.assertEqual([found.size for found in trace], [size] * (len(program) + 1))
                self.assertEqual(trace[0], marks)
                for many in range(len(program) + 1):
                    self.assertEqual(trace[many], behind(program.beginning(many), marks))
                self.assertEqual((marks.depth, trace[-1].depth), (0, len(program)))

    def test_too_large(self):
        for size in (1, 9, K):
            flat = Marks(size, ((0, size - 1, 1),))
            for many in range(6):
                deep = behind(Program(" then ".join(["sum 2"] * many)), flat)
                for more in range(6):
                    program = Program(" then ".join(["turn"] * more))
                    if many + more <= 5:
                        self.assertEqual(behind(program, deep).depth, many + more)
                        self.assertEqual(Parity(deep).back(program).marks.depth, many + more)
                        Parity(deep).is_kept(program)
                    else:
                        for call in (behind, far_trace):
                            self.refused(TooLarge, "most", 5, call, program, deep)
                        self.refused(TooLarge, "most", 5, Parity(deep).back, program)
                        self.refused(TooLarge, "most", 5, Parity(deep).is_kept, program)

    def test_five_steps_take_a_moment(self):
        random = Random(36)
        texts = [*program_texts(37, 30, 5), *[" then ".join(["sum %d" % by] * 5) for by in (-3, 1, 2, 3)],
                 "undeal then sum 1 then undeal then sum 2 then sum 3", "gather then sum 3 then gather then sum 2 then spread",
                 "near 1 then near 2 then near 3 then near -3 then near -2"]
        for text in texts:
            marks = Marks(K, runs_at(random, K, 20))
            begun = time.perf_counter()
            found = behind(Program(text), marks)
            found.many()
            found.nth(found.many() // 2)
            Parity(marks).back(Program(text)).value(found)
            self.assertLess(time.perf_counter() - begun, 3, text)

    def test_examples(self):
        self.assertEqual(behind(Program("sum 1"), Marks(10, ((5, 8, 3),))), Marks(10, ((6, 8, 1),)))
        self.assertEqual(behind(Program("sum 2"), Marks(7, ((0, 6, 1),))).as_bits(), (0, 1, 1, 0, 0, 1, 1))
        thirds, ones = Marks(K, ((0, K - 1, 3),)), Marks(K, ((0, K - 1, 1),))
        self.assertEqual(behind(Program("deal"), thirds), thirds)
        self.assertEqual(behind(Program("sum 2"), ones), Marks(K, ((2, K - 2, 4), (3, K - 1, 4))))
        deep = behind(Program("sum 2 then sum 2 then sum 2 then sum 2 then sum 2"), ones)
        self.assertEqual(deep.depth, 5)
        self.refused(TooLarge, "most", 5, behind, Program("turn"), deep)


class ParityTest(Case):
    """Point 15: parities."""

    def test_value(self):
        random = Random(41)
        for size in (1, 2, 3, 9, 30, 60):
            for _ in range(20):
                word, given = [[random.randint(0, 1) for _ in range(size)] for _ in range(2)]
                for plus in (0, 1):
                    parity = Parity(Marks.of_bits(given), plus=plus)
                    expected = (sum(a * b for a, b in zip(word, given)) + plus) % 2
                    self.assertEqual(parity.value(Marks.of_bits(word)), expected)
                    self.assertIs(type(parity.value(Marks.of_bits(word))), int)

    def test_attributes(self):
        marks = Marks(9, ((0, 8, 2),))
        self.assertEqual((Parity(marks).plus, Parity(marks, plus=1).plus), (0, 1))
        self.assertEqual(Parity(marks).marks, marks)
        self.assertEqual(Parity(marks=marks, plus=1), Parity(marks, plus=1))
        with self.assertRaises(TypeError):
            Parity(marks, 1)

    def test_bad_plus(self):
        for value in [*NO_INTEGERS, 2, -1, K]:
            self.refused(BadNumber, "number", value, lambda: Parity(Marks(3), plus=value))

    def test_unlike_sizes(self):
        for one, other in ((1, 2), (2, 1), (9, K), (K, 9)):
            self.refused(BadSize, "size", other, Parity(Marks(one)).value, Marks(other))
            self.refused(BadSize, "size", other, lambda: Parity(Marks(one)) + Parity(Marks(other), plus=1))
            self.assertIs(Parity(Marks(one)) == Parity(Marks(other)), False)

    def test_equal(self):
        marks = Marks(9, ((0, 8, 2),))
        for plus, other in product((0, 1), (0, 1)):
            self.assertIs(Parity(marks, plus=plus) == Parity(Marks(9, ((0, 8, 2),)), plus=other), plus == other)
            self.assertIs(Parity(marks, plus=plus) == Parity(~marks, plus=other), False)
        for value in [*odd_values(), 0, "", marks, Program(""), ANY]:
            self.assertIs(Parity(marks) == value, False)
            self.assertIs(Parity(marks) != value, True)

    def test_sum(self):
        random = Random(42)
        for size in (1, 5, 60, K):
            for _ in range(20):
                one, other, word = [Marks(size, runs_at(random, size, 3)) for _ in range(3)]
                for plus, more in product((0, 1), (0, 1)):
                    first, second = Parity(one, plus=plus), Parity(other, plus=more)
                    total = first + second
                    self.assertIs(type(total), Parity)
                    self.assertEqual(total, Parity(one ^ other, plus=(plus + more) % 2))
                    self.assertEqual(total.value(word), (first.value(word) + second.value(word)) % 2)
                    self.assertEqual((first.marks, first.plus, second.marks, second.plus), (one, plus, other, more))
        flat = Parity(Marks(60, ((0, 59, 2),)))
        deep = flat.back(Program("sum 1 then undeal then sum 2"))
        self.assertEqual(((flat + deep).marks.depth, (deep + flat).marks.depth, (deep + deep).marks.depth), (3, 3, 3))

    def test_back_at_small_sizes(self):
        random = Random(43)
        for text in TEXTS:
            program = Program(text)
            for size in (1, 2, 3, 4, 5, 8, 13, 30):
                rows = plain_table(text, size)
                given = [random.randint(0, 1) for _ in range(size)]
                plus = random.randint(0, 1)
                mask, flips = 0, plus
                for i in range(size):
                    if given[i]:
                        mask, flips = mask ^ rows[i][0], flips ^ rows[i][1]
                parity = Parity(Marks.of_bits(given), plus=plus)
                found = parity.back(program)
                self.assertEqual(found.marks.as_bits(), tuple(mask >> j & 1 for j in range(size)), (text, size))
                self.assertEqual((found.plus, found.marks.depth), (flips, len(program)))
                self.assertEqual((parity.marks, parity.plus), (Marks.of_bits(given), plus))

    def test_back_at_large_sizes(self):
        random = Random(44)
        for text in TEXTS:
            program = Program(text)
            for size in LARGE:
                parity = Parity(Marks(size, runs_at(random, size, 4)), plus=random.randint(0, 1))
                found = parity.back(program)
                for _ in range(3):
                    word = Marks(size, runs_at(random, size, 4))
                    self.assertEqual(found.value(word), parity.value(behind(program, word)), (text, size))

    def test_back_and_back_again(self):
        random = Random(45)
        for text in [*EXPECTED, *program_texts(46, 40, 2)]:
            parity = Parity(Marks(K, runs_at(random, K, 5)), plus=1)
            self.assertEqual(parity.back(Program(text)).back(~Program(text)), parity)

    def test_is_kept(self):
        for text in TEXTS:
            program = Program(text)
            for size in (1, 2, 3, 4):
                words = [word for word in words_upto(4) if len(word) == size]
                for given in words:
                    for plus in (0, 1):
                        parity = Parity(Marks.of_bits(given), plus=plus)
                        expected = all((sum(a * b for a, b in zip(given, word)) - sum(
                            a * b for a, b in zip(given, program.done(word)))) % 2 == 0 for word in words)
                        self.assertIs(parity.is_kept(program), expected, (text, given))

    def test_is_kept_at_large_sizes(self):
        whole, evens = Marks(K, ((0, K - 1, 1),)), Marks(K, ((0, K - 1, 2),))
        for marks, text, kept in (
                (whole, "turn", True), (whole, "roll 3 then deal then swap", True), (whole, "near 1", False),
                (whole, "flip 0 of 2", True), (whole, "flip 0 of 3", True), (whole, "flip 1 of 3", False),
                (whole, "flip first", False), (whole, "flip first then flip last", True), (evens, "turn", False),
                (evens, "roll 2", True), (evens, "roll 1", False), (evens, "near 2", False), (Marks(K), "gather", True),
                (whole, "spread", False), (evens, "near 1 at 1 of 2", True), (evens, "flip 1 of 2", True)):
            for plus in (0, 1):
                self.assertIs(Parity(marks, plus=plus).is_kept(Program(text)), kept, text)

    def test_examples(self):
        self.assertEqual(Parity(Marks(6, ((0, 5, 1),)), plus=1).value(Marks(6, ((1, 3, 1),))), 0)
        whole = Parity(Marks(6, ((0, 5, 1),)))
        self.assertEqual(whole.back(Program("near 1")), bit_at(6, 0))
        self.assertEqual(whole.back(Program("flip 0 of 2")).plus, 1)
        self.assertIs(whole.is_kept(Program("turn")), True)


class HangsTest(Case):
    """Points 10 and 15: bit_at and hangs_on."""

    def test_bit_at(self):
        for k in (1, 2, 9, K):
            for i in {0, k // 2, k - 1}:
                found = bit_at(k, i)
                self.assertEqual(found, Parity(Marks(k, ((i, i, 1),))))
                self.assertEqual((found.plus, found.marks.depth, found.marks.listed(1)), (0, 0, (i,)))

    def test_small_sizes(self):
        for text in TEXTS:
            program = Program(text)
            for k in (1, 2, 3, 7, 8, 25):
                for i, (mask, flip) in enumerate(plain_table(text, k)):
                    expected = tuple(j for j in range(k) if mask >> j & 1)
                    found = hangs_on(program, k, i, len(expected))
                    self.assertEqual(found, (expected, flip), (text, k, i))
                    self.assertEqual([type(found), type(found[0]), type(found[1])], [tuple, tuple, int])
                    if expected:
                        self.refused(TooMany, "most", len(expected) - 1, hangs_on, program, k, i, len(expected) - 1)

    def test_large_sizes(self):
        for text in FEW_TEXTS:
            for k in LARGE:
                for i in looked_at(k, ())[::4]:
                    self.assertEqual(hangs_on(Program(text), k, i, 100), hung_on(text, k, i), (text, k, i))

    def test_refusals(self):
        for text in ("", "sum 1", "deal then flip 0 of 2"):
            program = Program(text)
            for value in [*NO_INTEGERS, 0, -1, K + 1]:
                for i, most in ((0, 5), (None, None), (-1, -1), (K, 5)):
                    self.refused(BadSize, "size", value, bit_at, value, i)
                    self.refused(BadSize, "size", value, hangs_on, program, value, i, most)
            for k in (1, 9, K):
                for value in [*NO_INTEGERS, -1, k, k + 1, 10 ** 5000]:
                    self.refused(BadNumber, "number", value, bit_at, k, value)
                    for most in (5, None, -1):
                        self.refused(BadNumber, "number", value, hangs_on, program, k, value, most)
                for value in [*NO_INTEGERS, -1, 1001, K]:
                    self.refused(BadNumber, "number", value, hangs_on, program, k, 0, value)
        for most in (0, 1, 999, 1000):
            self.refused(TooMany, "most", most, hangs_on, Program("sum 1"), K, 0, most)

    def test_examples(self):
        self.assertEqual(hangs_on(Program("gather"), 5, 0, 5), ((0, 1, 2, 3, 4), 0))
        self.assertEqual(hangs_on(Program("sum 3 then flip 1 of 2"), 8, 1, 3), ((1, 4, 7), 1))
        self.assertEqual(hangs_on(Program("flip 1 of 2 then sum 3"), 8, 1, 3), ((1, 4, 7), 0))


if __name__ == "__main__":
    unittest.main()

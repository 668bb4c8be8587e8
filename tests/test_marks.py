import unittest
from itertools import product
from random import Random
from unittest.mock import ANY

from allwordlengths.errors import BadBits, BadNumber, BadSize, TooMany
from allwordlengths.marks import Marks
from allwordlengths.programs import Program
from allwordlengths.walks import behind
from cases import NO_INTEGERS, Case, K
from counted import ends_of, is_marked, many_between, many_marked, runs_at
from plain import odd_values, scattered

LARGE = (1001, 12 ** 9 + 5, 2 ** 97 + 1, K - 1, K)


def marked(size, runs):
    return [j for j in range(size) if is_marked(runs, j)]


def small_cases():
    """Sizes with runs of each kind: none, one, up to twenty, some of them twice, in any order."""
    random = Random(11)
    yield from [(size, ()) for size in (1, 2, 7, 40)]
    for size in range(1, 9):
        for first, last in [(a, b) for a in range(size) for b in range(a, size)]:
            for step in (1, 2, 3, 4):
                yield size, ((first, last, step),)
    for size in (1, 2, 3, 5, 10, 24, 25, 60, 100):
        for many in (2, 3, 5, 19, 20):
            yield size, tuple(runs_at(random, size, many))


def large_cases():
    random = Random(12)
    for size in LARGE:
        for many in (0, 1, 2, 3, 7, 20):
            yield size, tuple(runs_at(random, size, many))


class MadeTest(Case):
    """Point 11: which places are marked."""

    def test_runs(self):
        for size, runs in small_cases():
            marks = Marks(size, runs)
            expected = marked(size, runs)
            self.assertEqual((marks.size, marks.depth), (size, 0))
            self.assertEqual(marks.listed(1000), tuple(expected), (size, runs))
            self.assertEqual(marks.as_bits(), tuple(int(j in expected) for j in range(size)))
            self.assertEqual(Marks(size, runs[::-1]), marks)
            self.assertEqual(Marks(size, [list(run) for run in runs]), marks)
            self.assertEqual(Marks(size=size, runs=list(runs)), marks)

    def test_step_that_does_not_meet_last(self):
        self.assertEqual(Marks(20, ((1, 6, 4),)).listed(9), (1, 5))
        self.assertEqual(Marks(20, ((1, 6, 4),)), Marks(20, ((1, 5, 4),)))
        self.assertEqual(Marks(20, ((0, 19, 3),)).listed(9), (0, 3, 6, 9, 12, 15, 18))
        self.assertEqual(Marks(K, ((0, K - 1, 3),)), Marks(K, ((0, K - 1 - (K - 1) % 3, 3),)))

    def test_runs_that_stand_twice(self):
        for size, run in ((10, (2, 9, 3)), (K, (2, K - 3, 4))):
            for many in range(21):
                self.assertEqual(Marks(size, (run,) * many), Marks(size, (run,) * (many % 2)))

    def test_no_runs(self):
        for size in (1, 2, 1000, K):
            self.assertTrue(Marks(size).is_none())
            self.assertTrue(Marks(size, []).is_none())
            self.assertEqual(Marks(size), Marks(size, ()))

    def test_a_list_that_changes_later(self):
        runs = [[0, 4, 1], [2, 9, 3]]
        marks = Marks(10, runs)
        expected = marks.as_bits()
        runs[0][1] = 9
        runs.append([0, 9, 2])
        self.assertEqual(marks.as_bits(), expected)
        self.assertEqual(runs, [[0, 9, 1], [2, 9, 3], [0, 9, 2]])

    def test_bad_size(self):
        for value in [*NO_INTEGERS, 0, -1, K + 1, 10 ** 5000]:
            for runs in ((), [(0, 0, 1)] * 21, (None,)):
                self.refused(BadSize, "size", value, Marks, value, runs)

    def test_too_many_runs(self):
        for member in ((0, 0, 1), None, (5, 4, 1)):
            for many in (21, 22, 100):
                self.refused(TooMany, "most", 20, Marks, 10, [member] * many)
                self.refused(TooMany, "most", 20, Marks, 10, (member,) * many)
        Marks(10, [(0, 0, 1)] * 20)

    def test_members_that_are_no_runs(self):
        for size in (1, 10, K):
            bad = [*odd_values(), 0, "", "abc", (0, 0), [0, 0], (0, 0, 1, 1), (True, 0, 1), (0, False, 1), (0, 0, True),
                   (None, 0, 1), (0, None, 1), (0, 0, None), ("0", 0, 1), (0, "0", 1), (0, 0, "1"), (0, size, 1),
                   (size, size, 1), (0, size + 5, 2), (-1, 0, 1), (-2, -1, 1), (0, -1, 1), (1, 0, 1), (0, 0, 0),
                   (0, 0, 5), (0, 0, -1), (0, 0, 10 ** 40), (0.0, 0, 1), (0, 0, 1.0), ((0,), 0, 1), {0: 0, 1: 0, 2: 1}]
            for index, member in product((0, 1, 5, 19), bad):
                runs = [(0, 0, 1)] * index + [member]
                self.refused(BadNumber, "number", index, Marks, size, runs)
                self.refused(BadNumber, "number", index, Marks, size, tuple(runs))
                if index < 19:
                    self.refused(BadNumber, "number", index, Marks, size, [*runs, None])

    def test_of_bits(self):
        for size in (1, 2, 5, 12, 13, 59, 60):
            for seed in range(5):
                word = scattered(size, seed)
                for given in (word, list(word)):
                    marks = Marks.of_bits(given)
                    self.assertIs(type(marks), Marks)
                    self.assertEqual((marks.size, marks.depth), (size, 0))
                    self.assertEqual(marks.as_bits(), word)
                    self.assertEqual(tuple(given), word)
        self.assertEqual(Marks.of_bits((1,) * 60), Marks(60, ((0, 59, 1),)))
        self.assertEqual(Marks.of_bits((0,) * 60), Marks(60))

    def test_of_bits_refused(self):
        for bits in ((), [], (0,) * 61, [1] * 61, [None] * 1000):
            self.refused(BadSize, "size", len(bits), Marks.of_bits, bits)
        for value in [*odd_values(), 2, -1, "0", K]:
            for size, index in ((1, 0), (5, 0), (5, 4), (60, 0), (60, 59)):
                bits = [1] * index + [value] * (size - index)
                self.refused(BadBits, "index", index, Marks.of_bits, bits)
                self.refused(BadBits, "index", index, Marks.of_bits, tuple(bits))


class QuestionsTest(Case):
    """Point 12: what can be asked."""

    def places(self, size, runs):
        """Places at and beside all ends of runs, below 0, at size and beyond."""
        ends = [0, size, *ends_of(runs)]
        return sorted({end + beside for end in ends for beside in range(-14, 15)} | {-K, size // 2, size + K})

    def check(self, size, runs):
        marks = Marks(size, runs)
        many = many_marked(runs, 0, size)
        self.assertEqual(marks.many(), many, (size, runs))
        self.assertIs(marks.is_none(), many == 0)
        ends = ends_of(runs)
        for j in self.places(size, runs):
            self.assertIs(j in marks, 0 <= j < size and is_marked(runs, j), (size, runs, j))
            if j < 0:
                continue
            below = many_between(lambda i: is_marked(runs, i), ends, 0, min(j, size))
            if j <= size:
                self.assertEqual(marks.below(j), below)
            found = marks.next_from(j)
            if below == many:
                self.assertIsNone(found)
            else:
                self.assertTrue(found >= j and is_marked(runs, found))
                self.assertEqual(many_marked(runs, j, found), 0)
                self.assertEqual(marks.nth(below), found)
            found = marks.last_upto(j)
            upto = below + int(j < size and is_marked(runs, j))
            if upto == 0:
                self.assertIsNone(found)
            else:
                self.assertTrue(found <= j and is_marked(runs, found))
                self.assertEqual(many_marked(runs, found, min(j + 1, size)), 1)
                self.assertEqual(marks.nth(upto - 1), found)

    def test_small_sizes(self):
        for size, runs in list(small_cases())[::7]:
            self.check(size, runs)

    def test_large_sizes(self):
        for size, runs in large_cases():
            self.check(size, runs)

    def test_nth(self):
        for size, runs in small_cases():
            marks = Marks(size, runs)
            places = marked(size, runs)
            for n in range(len(places) + 3):
                self.assertEqual(marks.nth(n), places[n] if n < len(places) else None)
        for size, runs in large_cases():
            marks = Marks(size, runs)
            many = marks.many()
            for n in sorted({0, 1, 2, 11, 12, 13, many // 3, many // 2, many - 2, many - 1} - {-1, -2}):
                found = marks.nth(n)
                if n < many:
                    self.assertTrue(is_marked(runs, found))
                    self.assertEqual(many_marked(runs, 0, found), n)
                else:
                    self.assertIsNone(found)
            for n in (many, many + 1, 10 ** 40):
                self.assertIsNone(marks.nth(n))

    def test_bad_numbers(self):
        for size, runs in ((1, ()), (10, ((0, 9, 3),)), (K, ((5, K - 1, 1),))):
            marks = Marks(size, runs)
            for value in [*NO_INTEGERS, -1, -K]:
                for call in (marks.below, marks.next_from, marks.last_upto, marks.nth, marks.listed):
                    self.refused(BadNumber, "number", value, call, value)
            for value in (size + 1, 10 ** 5000):
                self.refused(BadNumber, "number", value, marks.below, value)
            for value in (1001, K):
                self.refused(BadNumber, "number", value, marks.listed, value)
            self.assertEqual(marks.below(0), 0)
            self.assertEqual(marks.below(size), marks.many())

    def test_listed(self):
        for size, runs in small_cases():
            marks = Marks(size, runs)
            expected = tuple(marked(size, runs))
            for most in {len(expected), len(expected) + 1, 1000}:
                found = marks.listed(most)
                self.assertIs(type(found), tuple)
                self.assertEqual(found, expected)
            if expected:
                self.refused(TooMany, "most", len(expected) - 1, marks.listed, len(expected) - 1)
                self.refused(TooMany, "most", 0, marks.listed, 0)
        edges = Marks(K, ((0, 599, 3), (K - 3 * 800, K - 1, 3)))
        self.assertEqual(edges.listed(1000), (*range(0, 600, 3), *range(K - 2400, K, 3)))
        self.refused(TooMany, "most", 999, edges.listed, 999)
        self.refused(TooMany, "most", 1000, Marks(K, ((0, 1000, 1),)).listed, 1000)
        self.refused(TooMany, "most", 1000, Marks(K, ((0, K - 1, 1),)).listed, 1000)
        self.assertEqual(Marks(K).listed(0), ())

    def test_as_bits(self):
        for size in (1, 999, 1000):
            found = Marks(size, ((0, size - 1, 2),)).as_bits()
            self.assertIs(type(found), tuple)
            self.assertEqual(found, tuple(1 - j % 2 for j in range(size)))
        for size in (1001, 1002, K):
            self.refused(BadSize, "size", size, Marks(size).as_bits)

    def test_what_is_told_is_new(self):
        marks = Marks(9, ((0, 8, 2),))
        self.assertIsNot(marks.listed(9), marks.listed(9))
        self.assertIsNot(marks.as_bits(), marks.as_bits())

    def test_examples(self):
        marks = Marks(10, ((0, 9, 3), (3, 6, 1)))
        self.assertEqual(marks.listed(10), (0, 4, 5, 9))
        self.assertEqual((marks.below(5), marks.next_from(1), marks.last_upto(8), marks.nth(3)), (2, 4, 5, 9))
        self.assertEqual(marks.as_bits(), (1, 0, 0, 0, 1, 1, 0, 0, 0, 1))
        self.assertEqual(Marks(K, ((0, K - 1, 3),)).many(), 333333333333333333333333333334)


SIGNS = {
    "^": (lambda one, other: one ^ other, lambda a, b: a != b),
    "&": (lambda one, other: one & other, lambda a, b: a and b),
    "|": (lambda one, other: one | other, lambda a, b: a or b),
    "-": (lambda one, other: one - other, lambda a, b: a and not b),
}


class SignsTest(Case):
    """Point 13: marks from marks."""

    def test_small_sizes(self):
        random = Random(13)
        for size in (1, 2, 3, 5, 12, 30, 61, 200):
            given = [tuple(runs_at(random, size, many)) for many in (0, 1, 1, 2, 4, 9, 20)]
            for one, other in product(given, given):
                first, second = Marks(size, one), Marks(size, other)
                ones, others = set(marked(size, one)), set(marked(size, other))
                for found, expected in ((first ^ second, ones ^ others), (first & second, ones & others),
                                        (first | second, ones | others), (first - second, ones - others),
                                        (~first, set(range(size)) - ones)):
                    self.assertIs(type(found), Marks)
                    self.assertEqual((found.size, found.depth), (size, 0))
                    self.assertEqual(found.listed(1000), tuple(sorted(expected)))
                self.assertIs(first == second, ones == others)
                self.assertIs(first != second, ones != others)

    def test_large_sizes(self):
        random = Random(14)
        for size in LARGE:
            given = [tuple(runs_at(random, size, many)) for many in (0, 1, 3, 20)]
            for one, other in product(given, given):
                first, second = Marks(size, one), Marks(size, other)
                ends = ends_of(one + other)
                places = [j for end in (0, *ends, size) for j in (end - 1, end, end + 1) if 0 <= j < size]
                for sign, (made, rule) in SIGNS.items():
                    def told(j):
                        return rule(is_marked(one, j), is_marked(other, j))
                    found = made(first, second)
                    self.assertEqual(found.many(), many_between(told, ends, 0, size), (sign, size, one, other))
                    for j in places:
                        self.assertIs(j in found, bool(told(j)))
                self.assertEqual((~first).many(), size - first.many())
                self.assertEqual(first ^ second, (first | second) - (first & second))
                self.assertEqual(~(first | second), ~first & ~second)
                self.assertEqual((first ^ second) ^ second, first)
                self.assertIs(first == second, many_between(
                    lambda j: is_marked(one, j) != is_marked(other, j), ends, 0, size) == 0)

    def test_the_given_ones_stay(self):
        one, other = Marks(K, ((3, K - 4, 3),)), Marks(K, ((0, K // 2, 2),))
        kept = [Marks(K, ((3, K - 4, 3),)), Marks(K, ((0, K // 2, 2),))]
        for made, _ in SIGNS.values():
            made(one, other)
        made = ~one
        behind(Program("sum 3 then deal"), one)
        self.assertNotEqual(made, one)
        self.assertEqual([one, other], kept)
        self.assertEqual([one.depth, other.depth, one.many()], [0, 0, kept[0].many()])

    def test_unlike_sizes(self):
        for one, other in ((1, 2), (2, 1), (10, K), (K, 10), (K, K - 1)):
            for made, _ in SIGNS.values():
                self.refused(BadSize, "size", other, made, Marks(one, ((0, 0, 1),)), Marks(other, ((0, 0, 1),)))
            self.assertIs(Marks(one) == Marks(other), False)

    def test_depths(self):
        for size in (9, 60, K):
            flat = Marks(size, ((0, size - 1, 3),))
            for text, depth in (("turn", 1), ("sum 2 then near 1", 2), ("turn then sum 1 then sum 1 then swap", 4)):
                deep = behind(Program(text), flat)
                for made, _ in SIGNS.values():
                    self.assertEqual(made(flat, deep).depth, depth)
                    self.assertEqual(made(deep, flat).depth, depth)
                    self.assertEqual(made(deep, deep).depth, depth)
                self.assertEqual((~deep).depth, depth)
        flat = Marks(60, ((0, 59, 3),))
        for text in ("sum 1", "undeal then sum 2", "sum 1 then sum 2 then sum 3 then sum -1 then undeal"):
            deep = behind(Program(text), flat)
            ones, others = set(flat.listed(60)), set(deep.listed(60))
            self.assertEqual((flat ^ deep).listed(60), tuple(sorted(ones ^ others)))
            self.assertEqual((deep - flat).listed(60), tuple(sorted(others - ones)))
            self.assertEqual((~deep).listed(60), tuple(sorted(set(range(60)) - others)))

    def test_equal_marks_of_unlike_depths(self):
        flat = Marks(K, ((0, K - 1, 3),))
        for text in ("deal", "turn then turn", "sum 1 then near 1", "near 3 then sum 3 then roll 1 then roll -1"):
            deep = behind(Program(text), flat)
            self.assertGreater(deep.depth, 0)
            self.assertIs(deep == flat, True)
            self.assertIs(flat == deep, True)
            self.assertIs(flat != deep, False)
            self.assertIs(deep ^ Marks(K, ((5, 5, 1),)) == flat, False)

    def test_other_kinds(self):
        marks = Marks(3, ((0, 0, 1),))
        for value in [*odd_values(), 0, "", (0,), [0], {0}, (1, 0, 0), Program(""), ANY]:
            self.assertIs(marks == value, False)
            self.assertIs(marks != value, True)

    def test_one_place_apart(self):
        whole = Marks(K, ((0, K - 1, 1),))
        for j in (0, 1, 11, 12, K // 2, K - 2, K - 1):
            self.assertIs(whole == whole ^ Marks(K, ((j, j, 1),)), False)
            self.assertEqual((~(whole ^ Marks(K, ((j, j, 1),)))).listed(1), (j,))


if __name__ == "__main__":
    unittest.main()

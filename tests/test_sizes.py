import unittest
from itertools import product
from random import Random
from unittest.mock import ANY

from allwordlengths.errors import BadNumber, BadSize, TooMany
from allwordlengths.programs import Program
from allwordlengths.sizes import (
    Sizes, all_sizes, no_sizes, only_sizes, sizes_by, sizes_from, sizes_of_rows, sizes_rest, sizes_upto,
)
from cases import NO_INTEGERS, Case, K
from plain import odd_values

BAD_SIZES = [*NO_INTEGERS, 0, -1, -K, K + 1, 10 ** 5000]
NEAR_K = [K - 1000, K - 61, K - 60, K - 7, K - 2, K - 1, K, K + 1, K + 2, 2 * K, 2 ** 100 - 1, 2 ** 100, 10 ** 40]


def digits_of(number):
    """The digits of a number, the lowest one first, up to the highest 1."""
    return [int(digit) for digit in bin(number)[:1:-1]] if number else []


def in_rows(rows, number):
    at = 0
    for digit in digits_of(number):
        at = rows[at][digit]
    return number > 0 and rows[at][2] == 1


def random_rows(random, many):
    return [(random.randrange(many), random.randrange(many), random.randrange(2)) for _ in range(many)]


def counter(many, wanted=0):
    """The sizes with so many digits that the remainder by many is the one wanted."""
    return sizes_by(0, lambda key, digit: (key + 1) % many, lambda key: key == wanted)


def told_sets():
    """Sets of sizes, each with a test of a number that is made from the document alone."""
    yield no_sizes(), lambda k: False
    yield all_sizes(), lambda k: k > 0
    for limit in (1, 2, 3, 4, 7, 8, 37, 64, 100, 2 ** 97, K - 1, K):
        yield sizes_upto(limit), lambda k, limit=limit: 0 < k <= limit
        yield sizes_from(limit), lambda k, limit=limit: k >= limit
    for members in ((), (1,), (2,), (K,), (1, 2, 3, 4, 5, 6, 7), (6, 1, 3, 2, 3), (40, 80, 5, 120, 40), (200, 7, K, K - 7)):
        yield only_sizes(members), lambda k, members=members: k in members
    for m in (1, 2, 3, 4, 5, 6, 7, 8, 12, 15, 16, 30, 31, 32, 48, 59, 60):
        for r in {0, 1, m // 2, m - 1}:
            if r < m:
                yield sizes_rest(r, m), lambda k, r=r, m=m: k > 0 and k % m == r
    random = Random(71)
    for many in (1, 2, 3, 4, 6, 9, 20, 64):
        for _ in range(2):
            rows = random_rows(random, many)
            yield sizes_of_rows(rows), lambda k, rows=rows: in_rows(rows, k)
    yield counter(3), lambda k: k > 0 and k.bit_length() % 3 == 0
    yield (sizes_by("", lambda key, digit: (key + "ab"[digit])[-3:], lambda key: key in ("aab", "bb", "bbb")),
           lambda k: k > 0 and "".join("ab"[digit] for digit in digits_of(k))[-3:] in ("aab", "bb", "bbb"))


CASES = list(told_sets())
SMALL = 260


class SizesCase(Case):
    def check(self, sizes, told, upto=SMALL):
        """Compare a set with a test, for small sizes and for large ones, and see that it is told in its one form."""
        self.assertIs(type(sizes), Sizes)
        for k in (*range(-3, upto), *NEAR_K):
            found = k in sizes
            self.assertIs(found, bool(k > 0 and told(k)), k)
        self.check_form(sizes)

    def check_form(self, sizes):
        """Point 26: classes are numbered as they are reached, are all unlike, and zeros behind change nothing."""
        rows = sizes.digit_rows
        self.assertIs(type(rows), tuple)
        for row in rows:
            self.assertEqual((type(row), len(row), [type(part) for part in row]), (tuple, 3, [int] * 3))
            self.assertIn(row[2], (0, 1))
            self.assertEqual(rows[row[0]][2], row[2])
        # A row is passed here only once it has been reached, so this is the order of the first rows of digits.
        order, seen = [0], {0}
        for at in order:
            for target in rows[at][:2]:
                if target not in seen:
                    seen.add(target)
                    order.append(target)
        self.assertEqual(order, list(range(len(rows))))
        names, many = [row[2] for row in rows], 0
        while len(set(names)) > many:
            many = len(set(names))
            numbers = {}
            names = [numbers.setdefault((names[at], names[row[0]], names[row[1]]), len(numbers))
                     for at, row in enumerate(rows)]
        self.assertEqual(many, len(rows))
        self.assertEqual(rows[0][2], 0)
        self.assertLessEqual(len(rows), 400)


class WaysTest(SizesCase):
    """Points 24 to 27: the ways of making a set."""

    def test_all_ways(self):
        for sizes, told in CASES:
            self.check(sizes, told)

    def test_all_rests(self):
        for m in range(1, 61):
            for r in range(m):
                sizes = sizes_rest(r, m)
                expected = {k for k in range(1, 200) if k % m == r}
                self.assertEqual({k for k in range(-2, 200) if k in sizes}, expected)
                for k in (K - m, K - 1, K, K + 7, 3 * K):
                    self.assertIs(k in sizes, k % m == r)

    def test_known_digit_rows(self):
        for sizes, rows in (
                (all_sizes(), ((0, 1, 0), (1, 1, 1))), (no_sizes(), ((0, 0, 0),)),
                (sizes_rest(1, 2), ((1, 2, 0), (1, 1, 0), (2, 2, 1))),
                (sizes_rest(0, 2), ((1, 2, 0), (1, 3, 0), (2, 2, 0), (3, 3, 1))),
                (sizes_rest(2, 3), ((1, 0, 0), (0, 2, 0), (2, 1, 1))),
                (only_sizes((6, 1, 3, 2, 3)), ((1, 2, 0), (3, 2, 0), (4, 4, 1), (3, 3, 0), (4, 3, 1))),
                (sizes_by(0, lambda key, digit: (key + digit) % 2, lambda key: key == 1), ((0, 1, 0), (1, 0, 1))),
                (sizes_of_rows(((1, 1, 1), (0, 0, 0))), ((1, 1, 0), (0, 2, 0), (3, 1, 1), (2, 2, 1))),
                (only_sizes(()), ((0, 0, 0),)), (sizes_from(1), ((0, 1, 0), (1, 1, 1))),
                (sizes_rest(0, 1), ((0, 1, 0), (1, 1, 1))), (sizes_upto(1), ((1, 2, 0), (1, 1, 0), (2, 1, 1)))):
            self.assertEqual(sizes.digit_rows, rows)
            self.check_form(sizes)
        six = sizes_of_rows(((1, 1, 1), (0, 0, 0)))
        self.assertEqual([k for k in range(20) if k in six], [2, 3, *range(8, 16)])

    def test_digit_rows_from_the_words(self):
        """Point 26 by plain doing, for few classes: each is reached, and told apart, by fewer digits than there are."""
        behind = [digits for many in range(7) for digits in product((0, 1), repeat=many)]
        rows = [digits for many in range(7) for digits in product((0, 1), repeat=many)]
        for sizes, told in CASES:
            if len(sizes.digit_rows) > 7:
                continue
            classes, first = {}, []
            for digits in rows:
                key = tuple(told(sum(digit << place for place, digit in enumerate(digits + more))) for more in behind)
                if key not in classes:
                    classes[key] = len(classes)
                    first.append((digits, key))
            found = []
            for digits, key in first:
                targets = [classes[tuple(told(sum(bit << place for place, bit in enumerate(digits + (digit,) + more)))
                                         for more in behind)] for digit in (0, 1)]
                found.append((*targets, int(key[0] and sum(digits) > 0)))
            self.assertEqual(sizes.digit_rows, tuple(found))

    def test_bad_limits(self):
        for value in BAD_SIZES:
            self.refused(BadSize, "size", value, sizes_from, value)
            self.refused(BadSize, "size", value, sizes_upto, value)

    def test_only_sizes(self):
        random = Random(72)
        for many in (0, 1, 2, 5, 20, 63, 64):
            members = [random.randint(1, 300) for _ in range(many)]
            for given in (members, tuple(members), tuple(members[::-1])):
                self.check(only_sizes(given), lambda k: k in members, 320)
        members = [5, 3, 5]
        sizes = only_sizes(members)
        members.append(9)
        self.assertEqual([members, 9 in sizes], [[5, 3, 5, 9], False])

    def test_only_sizes_refused(self):
        for member in (1, None, K + 1):
            self.refused(TooMany, "most", 64, only_sizes, (member,) * 65)
            self.refused(TooMany, "most", 64, only_sizes, [member] * 1000)
        for value in BAD_SIZES:
            for given in ((value,), [3, value], (3, K, value, None, 0), [1] * 63 + [value]):
                self.refused(BadSize, "size", value, only_sizes, given)
        large = [2 ** 97 + n * (2 ** 94 + 1) for n in range(6)]
        self.check(only_sizes(large[:3]), lambda k: k in large[:3])
        self.refused(TooMany, "most", 400, only_sizes, large)
        self.refused(BadSize, "size", 0, only_sizes, [*large, 0])
        random = Random(73)
        self.refused(TooMany, "most", 400, only_sizes, [random.randint(1, K) for _ in range(64)])

    def test_bad_rests(self):
        for value in [*NO_INTEGERS, 0, -1, 61, K]:
            for r in (0, None, -1, 99):
                self.refused(BadNumber, "number", value, sizes_rest, r, value)
        for m in (1, 2, 7, 60):
            for value in [*NO_INTEGERS, -1, m, m + 1, K]:
                self.refused(BadNumber, "number", value, sizes_rest, value, m)

    def test_rows_that_callers_pass(self):
        random = Random(74)
        for many in (1, 2, 3, 5, 8, 17, 40, 64):
            for _ in range(4):
                rows = random_rows(random, many)
                kept = [list(row) for row in rows]
                for given in (rows, tuple(rows), kept, tuple(kept)):
                    self.check(sizes_of_rows(given), lambda k: in_rows(rows, k), 130)
                self.assertEqual(kept, [list(row) for row in rows])
        self.assertEqual(sizes_of_rows([[0, 0, 0]]), no_sizes())
        self.assertEqual(sizes_of_rows([[0, 0, 1]]), all_sizes())
        self.assertEqual(sizes_of_rows([(1, 1, 0), (1, 1, 1), (0, 0, 0)]), all_sizes())

    def test_rows_refused(self):
        for member in ((0, 0, 0), None, (9, 9, 9)):
            self.refused(TooMany, "most", 64, sizes_of_rows, [member] * 65)
            self.refused(TooMany, "most", 64, sizes_of_rows, (member,) * 200)
        for rows in ((), []):
            self.refused(BadNumber, "number", 0, sizes_of_rows, rows)
        for index, many in ((0, 1), (0, 3), (2, 3), (63, 64)):
            for bad in [*odd_values(), 0, "", "000", (), (0, 0), (0, 0, 0, 0), (many, 0, 0), (0, many, 0), (-1, 0, 0),
                        (0, -1, 0), (0, 0, 2), (0, 0, -1), (True, 0, 0), (0, False, 0), (0, 0, True), (None, 0, 0),
                        (0, None, 0), (0, 0, None), ("0", 0, 0), (0, 0, "1"), (0.0, 0, 0), [0, 0, 1.0], {0: 0, 1: 0, 2: 0}]:
                rows = [(0, 0, 1)] * index + [bad] + [None] * (many - index - 1)
                self.refused(BadNumber, "number", index, sizes_of_rows, rows)
                self.refused(BadNumber, "number", index, sizes_of_rows, tuple(rows))

    def test_functions_that_callers_pass(self):
        for start, step, inside, told in (
                (0, lambda key, digit: 0, lambda key: True, lambda k: True),
                (0, lambda key, digit: 0, lambda key: False, lambda k: False),
                ((), lambda key, digit: (key + (digit,))[-2:], lambda key: key == (1, 1), lambda k: bin(k)[2:4] == "11"),
                (("x", (0, 1)), lambda key, digit: (key[0], (key[1][1], digit)), lambda key: key[1][0] == 0,
                 lambda k: bin(k)[2:4] == "10"),
                ("even", lambda key, digit: key if digit == 0 else {"even": "odd", "odd": "even"}[key],
                 lambda key: key == "even", lambda k: bin(k).count("1") % 2 == 0),
                (-1, lambda key, digit: digit if key == -1 else key, lambda key: key == 1, lambda k: k % 2 == 1)):
            self.check(sizes_by(start, step, inside), told)
            self.check(sizes_by(start=start, step=step, inside=inside), told, 20)

    def test_zeros_at_the_end_do_not_count(self):
        self.check(counter(5, 2), lambda k: k.bit_length() % 5 == 2)
        self.assertEqual(sizes_by(0, lambda key, digit: 1, lambda key: key == 0), no_sizes())

    def test_too_many_keys(self):
        for many in (401, 402, 5000):
            self.refused(TooMany, "most", 400, sizes_by, 0, lambda key, digit: (key + 1) % many, lambda key: False)
        self.refused(TooMany, "most", 400, sizes_by, 0, lambda key, digit: key + 1, lambda key: True)
        self.assertEqual(sizes_by(0, lambda key, digit: (key + 1) % 400, lambda key: False), no_sizes())
        self.assertEqual(sizes_by(0, lambda key, digit: min(key + 1, 399), lambda key: True), all_sizes())

    def test_too_many_classes(self):
        self.assertEqual(len(counter(199).digit_rows), 398)
        self.assertEqual(len(counter(200).digit_rows), 400)
        for many in (201, 300, 400):
            self.refused(TooMany, "most", 400, counter, many)

    def test_what_callers_functions_raise(self):
        def step(key, digit):
            raise KeyError(key)
        self.assertRaises(KeyError, sizes_by, 0, step, lambda key: True)


class QuestionsTest(SizesCase):
    """Points 28 and 29: which sizes and how many."""

    def test_next_and_last(self):
        for sizes, told in CASES:
            inside = [k for k in range(1, SMALL) if told(k)]
            for k in range(1, 131):
                larger = [found for found in inside if found >= k]
                if larger:
                    self.assertEqual(sizes.next_from(k), larger[0])
                self.assertEqual(sizes.last_upto(k), max([found for found in inside if found <= k], default=None))

    def test_next_and_last_near_the_end(self):
        for sizes, told in CASES:
            for k in (K, K - 1, K - 70, 2 ** 98, 2 ** 99 - 1):
                found = sizes.next_from(k)
                near = [k + more for more in range(200) if told(k + more)]
                if near:
                    self.assertEqual(found, near[0])
                elif found is not None:
                    self.assertTrue(found >= k + 200 and told(found))
                found = sizes.last_upto(k)
                near = [k - less for less in range(200) if told(k - less)]
                if near:
                    self.assertEqual(found, near[0])
                elif found is not None:
                    self.assertTrue(found <= k - 200 and told(found))

    def test_next_that_is_beyond_all_limits(self):
        sizes = counter(190)
        self.assertEqual((sizes.least(), sizes.next_from(K)), (2 ** 189, 2 ** 189))
        self.assertEqual(sizes.halves(0).next_from(K), 2 ** 188)
        self.assertIsNone(sizes.last_upto(K))
        last = only_sizes((K,))
        self.assertEqual([last.next_from(K), last.next_from(1), last.last_upto(K), last.last_upto(K - 1)], [K, K, K, None])

    def test_least_and_greatest(self):
        for sizes, least, greatest, from_on, endless in (
                (no_sizes(), None, None, None, False), (all_sizes(), 1, None, 1, True),
                (sizes_upto(1), 1, 1, None, False), (sizes_upto(K), 1, K, None, False),
                (sizes_from(K), K, None, K, True), (sizes_from(2), 2, None, 2, True),
                (sizes_rest(0, 60), 60, None, None, True), (sizes_rest(7, 60), 7, None, None, True),
                (only_sizes((K, 5, 5)), 5, K, None, False), (only_sizes((1,)), 1, 1, None, False),
                (~only_sizes((5, 70)), 1, None, 71, True), (~only_sizes((1, 2, 3)), 4, None, 4, True),
                (~sizes_upto(K), K + 1, None, K + 1, True), (sizes_from(9) | only_sizes((8, 4)), 4, None, 8, True),
                (sizes_rest(1, 2) | sizes_from(10 ** 20), 1, None, 10 ** 20 - 1, True),
                (sizes_rest(1, 2) & sizes_upto(10 ** 20), 1, 10 ** 20 - 1, None, False),
                (counter(190), 2 ** 189, None, None, True), (only_sizes((K,)).twice(1), 2 * K + 1, 2 * K + 1, None, False),
                (sizes_rest(0, 2) - sizes_from(3), 2, 2, None, False)):
            self.assertEqual([sizes.least(), sizes.greatest(), sizes.from_on()], [least, greatest, from_on])
            self.assertIs(sizes.is_endless(), endless)
            self.assertIs(sizes.is_none(), least is None)
            self.assertIs(sizes.is_all(), from_on == 1)

    def test_least_and_greatest_by_trying(self):
        for sizes, told in CASES:
            inside = [k for k in range(1, SMALL) if told(k)]
            if inside:
                self.assertEqual(sizes.least(), inside[0])
            greatest, from_on = sizes.greatest(), sizes.from_on()
            if greatest is not None:
                self.assertTrue(told(greatest) and not sizes.is_endless())
                self.assertFalse(any(told(k) for k in NEAR_K if k > greatest))
            if from_on is not None:
                self.assertTrue(all(told(from_on + k) for k in range(300)))
                self.assertFalse(from_on > 1 and told(from_on - 1))
            self.assertIs(sizes.is_none(), sizes == no_sizes())
            self.assertIs(sizes.is_all(), sizes == all_sizes())

    def test_within(self):
        for one, first in CASES[::2]:
            for other, second in CASES[::3]:
                found = one.within(other)
                try:
                    self.assertIs(found, (one - other).is_none())
                except TooMany:
                    self.assertIs(found, False)
                if found:
                    self.assertTrue(all(second(k) for k in (*range(1, 200), *NEAR_K) if first(k)))
        self.assertIs(counter(190).within(counter(95)), True)
        self.assertIs(counter(95).within(counter(190)), False)
        # The answer is told, although no set of its own could be made on the way to it.
        self.assertIs(counter(199).within(counter(198)), False)

    def test_count(self):
        for sizes, told in CASES:
            many = 0
            for k in range(1, SMALL):
                many += bool(told(k))
                self.assertEqual(sizes.count_upto(k), many)
        self.assertEqual(sizes_rest(2, 3).count_upto(K), 333333333333333333333333333333)
        for m in (1, 2, 7, 12, 59, 60):
            for r in {0, m // 3, m - 1}:
                for k in (K, K - 1, 2 ** 99, 10 ** 20 + 7):
                    self.assertEqual(sizes_rest(r, m).count_upto(k), (k - r) // m + (r > 0))
        for k in (5, 10 ** 20, K):
            self.assertEqual([all_sizes().count_upto(k), no_sizes().count_upto(k)], [k, 0])
            self.assertEqual(sizes_from(3).count_upto(k), k - 2)
            self.assertEqual(sizes_upto(10 ** 10).count_upto(k), min(k, 10 ** 10))
            self.assertEqual((~only_sizes((2, 4, K))).count_upto(k), k - 2 - (k == K))

    def test_each(self):
        for sizes, told in CASES:
            for low, high in ((1, 1), (1, 50), (7, 7), (30, 150), (64, 128), (9, 3), (K, 1), (200, 1000)):
                self.assertEqual(list(sizes.each(low, high)), [k for k in range(low, high + 1) if told(k)])
            for low in (K - 1000, K - 60, K):
                self.assertEqual(list(sizes.each(low, K)), [k for k in range(low, K + 1) if told(k)])
        self.assertEqual(list(all_sizes().each(1, 1001)), list(range(1, 1002)))

    def test_each_is_a_generator(self):
        found = sizes_rest(0, 7).each(10, 30)
        self.assertEqual((next(found), next(found)), (14, 21))
        self.assertEqual(list(found), [28])
        self.assertEqual(list(found), [])

    def test_each_refused_as_late_as_it_is_iterated(self):
        for sizes in (all_sizes(), no_sizes(), sizes_rest(3, 7)):
            for value in BAD_SIZES:
                for other in (1, None, K + 2):
                    made = sizes.each(value, other)
                    self.refused(BadSize, "size", value, next, made)
                for low in (1, 5, K):
                    made = sizes.each(low, value)
                    self.refused(BadSize, "size", value, next, made)
            for low, high in ((1, 1002), (1, K), (K - 1001, K), (5, 1006)):
                made = sizes.each(low, high)
                self.refused(TooMany, "most", 1000, next, made)
            self.assertEqual(list(sizes.each(K, 1)), [])

    def test_refused(self):
        for sizes in (all_sizes(), no_sizes(), only_sizes((5,))):
            for value in BAD_SIZES:
                for call in (sizes.next_from, sizes.last_upto, sizes.count_upto):
                    self.refused(BadSize, "size", value, call, value)

    def test_examples(self):
        six = only_sizes((6, 1, 3, 2, 3))
        self.assertEqual((six.next_from(4), six.next_from(7), six.last_upto(5), six.count_upto(5)), (6, None, 3, 3))
        self.assertEqual((six.greatest(), six.from_on(), (~six).from_on()), (6, None, 7))
        self.assertEqual([six.halves(0), six.halves(1)], [only_sizes((1, 3)), only_sizes((1,))])
        self.assertEqual([six.twice(1), six.shifted(-2)], [only_sizes((3, 5, 7, 13)), only_sizes((1, 4))])
        self.assertEqual((six ^ sizes_upto(3)).least(), 6)
        self.assertEqual(list(six.each(2, 9)), [2, 3, 6])


SIGNS = (
    (lambda one, other: one | other, lambda a, b: a or b),
    (lambda one, other: one & other, lambda a, b: a and b),
    (lambda one, other: one - other, lambda a, b: a and not b),
    (lambda one, other: one ^ other, lambda a, b: bool(a) != bool(b)),
)


class SignsTest(SizesCase):
    """Points 24 and 30: sets from sets, and ==."""

    def test_two_sets(self):
        for one, first in CASES[::4]:
            for other, second in CASES[::5]:
                for made, rule in SIGNS:
                    try:
                        found = made(one, other)
                    except TooMany as error:
                        self.assertEqual(error.most, 400)
                        self.assertGreater(len(one.digit_rows) * len(other.digit_rows), 400)
                    else:
                        self.check(found, lambda k: rule(first(k), second(k)), 70)

    def test_one_set(self):
        for sizes, told in CASES:
            self.check(~sizes, lambda k: not told(k))
            self.assertEqual(~~sizes, sizes)
            for digit in (0, 1):
                self.check(sizes.halves(digit), lambda k: told(2 * k + digit), 130)
                self.check(sizes.twice(digit), lambda k: k > 1 and k % 2 == digit and told(k // 2), 200)
                self.assertEqual(sizes.twice(digit).halves(digit), sizes)
                self.assertTrue(sizes.twice(digit).halves(1 - digit).is_none())

    def test_shifted(self):
        for sizes, told in CASES[::3]:
            for many in (-30, -29, -16, -8, -7, -3, -2, -1, 0, 1, 2, 3, 8, 15, 29, 30):
                self.check(sizes.shifted(many), lambda k: k - many > 0 and told(k - many), 130)
            for many in range(31):
                self.assertEqual(sizes.shifted(many).shifted(-many), sizes)

    def test_plain_sets_together(self):
        self.assertEqual(sizes_upto(9) & sizes_from(9), only_sizes((9,)))
        self.assertEqual(~sizes_upto(9), sizes_from(10))
        self.assertEqual(sizes_rest(0, 2) | sizes_rest(1, 2), all_sizes())
        self.assertEqual(sizes_rest(2, 3) & sizes_rest(3, 4), sizes_rest(11, 12))
        self.assertEqual(sizes_rest(0, 2) - sizes_rest(0, 4), sizes_rest(2, 4))
        self.assertEqual(sizes_rest(0, 2) ^ sizes_rest(0, 4), sizes_rest(2, 4))
        self.assertEqual(all_sizes().shifted(30), sizes_from(31))
        self.assertEqual(all_sizes().shifted(-30), all_sizes())
        self.assertEqual(all_sizes().twice(0), sizes_rest(0, 2))
        self.assertEqual(all_sizes().twice(1), sizes_rest(1, 2) - only_sizes((1,)))
        self.assertEqual(sizes_rest(1, 2).halves(1), all_sizes())
        self.assertEqual(only_sizes((5,)).shifted(-5), no_sizes())

    def test_they_stay(self):
        sizes, other = sizes_rest(2, 5), sizes_upto(17)
        rows = sizes.digit_rows, other.digit_rows
        for made, _ in SIGNS:
            made(sizes, other)
        for call in (lambda: ~sizes, lambda: sizes.halves(0), lambda: sizes.twice(1), lambda: sizes.shifted(5),
                     lambda: list(sizes.each(1, 99)), lambda: sizes.within(other)):
            call()
        self.assertEqual((sizes.digit_rows, other.digit_rows), rows)

    def test_too_many_classes(self):
        one, other = counter(19), counter(23)
        for made, _ in SIGNS:
            self.refused(TooMany, "most", 400, made, one, other)
        large = [only_sizes([2 ** 97 + n * (2 ** 94 + 1) for n in many]) for many in ((0, 1, 2), (3, 4, 5))]
        self.refused(TooMany, "most", 400, lambda: large[0] | large[1])
        self.refused(TooMany, "most", 400, lambda: large[0] ^ large[1])
        self.assertTrue((large[0] & large[1]).is_none())
        self.assertEqual(large[0] - large[1], large[0])
        self.assertIs(large[0].within(large[1]), False)

    def test_bad_numbers(self):
        for sizes in (all_sizes(), no_sizes(), only_sizes((4, 9))):
            for value in [*NO_INTEGERS, 2, -1, K]:
                self.refused(BadNumber, "number", value, sizes.halves, value)
                self.refused(BadNumber, "number", value, sizes.twice, value)
            for value in [*NO_INTEGERS, 31, -31, K]:
                self.refused(BadNumber, "number", value, sizes.shifted, value)

    def test_bad_numbers_ahead_of_too_many_classes(self):
        sizes = counter(200)
        self.refused(TooMany, "most", 400, sizes.twice, 1)
        self.refused(BadNumber, "number", 2, sizes.twice, 2)
        self.refused(BadNumber, "number", 31, sizes.shifted, 31)

    def test_equal(self):
        for at, (one, first) in enumerate(CASES):
            for other, second in CASES[at:]:
                same = all(bool(k > 0 and first(k)) == bool(k > 0 and second(k)) for k in (*range(300), *NEAR_K))
                self.assertIs(one == other, same)
                self.assertIs(one != other, not same)
                self.assertIs(one == other, one.digit_rows == other.digit_rows)

    def test_other_kinds(self):
        for sizes in (no_sizes(), all_sizes(), only_sizes((1,))):
            for value in [*odd_values(), 0, 1, "", (1,), [1], {1}, sizes.digit_rows, Program(""), ANY]:
                self.assertIs(sizes == value, False)
                self.assertIs(sizes != value, True)


if __name__ == "__main__":
    unittest.main()

"""Sets of sizes, told by the digits of the sizes, the lowest one first."""

from allwordlengths.checks import MOST_SIZE, check_number, check_size, is_number
from allwordlengths.digitrows import (
    ALL_ROWS, IN_BOTH, IN_EITHER, IN_FIRST, IN_ONE, NO_ROWS, joined_rows, least_rows, positive_rows, row_behind,
    rows_of_keys, rows_of_shift, settled_rows,
)
from allwordlengths.errors import BadNumber, BadSize, TooMany
from allwordlengths.ranges import greatest_of, has_no_end, last_upto, least_from, many_upto, numbers_between

MOST_CLASSES = 400
MOST_TOLD = 64
MOST_DIVISOR = 60
MOST_SHIFT = 30
MOST_RANGE = 1000


class Sizes:
    """A set of sizes; callers do not make it."""

    def __init__(self, digit_rows):
        self.digit_rows = digit_rows

    def __contains__(self, x):
        if not isinstance(x, int) or isinstance(x, bool) or x < 1:
            return False
        return self.digit_rows[row_behind(self.digit_rows, 0, x)][2] == 1

    def __eq__(self, other):
        return isinstance(other, Sizes) and self.digit_rows == other.digit_rows

    def __or__(self, other):
        return sizes_told(joined_rows(self.digit_rows, other.digit_rows, IN_EITHER))

    def __and__(self, other):
        return sizes_told(joined_rows(self.digit_rows, other.digit_rows, IN_BOTH))

    def __sub__(self, other):
        return sizes_told(joined_rows(self.digit_rows, other.digit_rows, IN_FIRST))

    def __xor__(self, other):
        return sizes_told(joined_rows(self.digit_rows, other.digit_rows, IN_ONE))

    def __invert__(self):
        return sizes_told(joined_rows(ALL_ROWS, self.digit_rows, IN_FIRST))

    def least(self):
        """The least size, or None."""
        return least_from(self.digit_rows, 1)

    def greatest(self):
        """The greatest size, or None if there is none or if there are endlessly many sizes."""
        return greatest_of(self.digit_rows, 1)

    def next_from(self, k):
        """The least size that is not below k, or None."""
        check_size(k)
        return least_from(self.digit_rows, k)

    def last_upto(self, k):
        """The greatest size that is not above k, or None."""
        check_size(k)
        return last_upto(self.digit_rows, k)

    def from_on(self):
        """The least size such that it and all greater ones are in the set, or None."""
        # The number 0 is in no set, so there is always a greatest one outside, or there are endlessly many.
        last = greatest_of(self.digit_rows, 0)
        return None if last is None else last + 1

    def is_none(self):
        """Whether the set is empty."""
        return self.digit_rows == NO_ROWS

    def is_all(self):
        """Whether the set has all sizes."""
        return self.digit_rows == ALL_ROWS

    def is_endless(self):
        """Whether the set has endlessly many sizes."""
        return has_no_end(self.digit_rows, 1)

    def within(self, other):
        """Whether all sizes of the set are in another one."""
        left = joined_rows(self.digit_rows, other.digit_rows, IN_FIRST)
        return all([inside == 0 for _, _, inside in left])

    def count_upto(self, k):
        """The number of the sizes that are not above k."""
        check_size(k)
        return many_upto(self.digit_rows, k)

    def each(self, low, high):
        """The sizes from low to high, one by one, ascending."""
        check_size(low)
        check_size(high)
        if high > low + MOST_RANGE:
            raise TooMany(MOST_RANGE)
        for size in numbers_between(self.digit_rows, low, high):
            yield size

    def halves(self, digit):
        """The sizes k with 2 * k + digit in the set."""
        check_number(digit, 0, 1)
        return sizes_told(positive_rows(self.digit_rows, self.digit_rows[0][digit]))

    def twice(self, digit):
        """The sizes 2 * k + digit for the sizes k of the set."""
        check_number(digit, 0, 1)
        moved = [(zero + 1, one + 1, inside) for zero, one, inside in self.digit_rows]
        # Behind the other digit there are no numbers.
        none = len(moved) + 1
        first = (1, none, 0) if digit == 0 else (none, 1, 0)
        return sizes_told([first, *moved, (none, none, 0)])

    def shifted(self, many):
        """The sizes k + many, as far as they are sizes, for the sizes k of the set."""
        check_number(many, -MOST_SHIFT, MOST_SHIFT)
        return sizes_told(positive_rows(rows_of_shift(self.digit_rows, many), 0))


def sizes_told(rows):
    """The set that is told by rows for which zeros behind the digits change nothing and the number 0 is outside."""
    return Sizes(least_rows(rows, MOST_CLASSES))


def sizes_of_least(rows):
    """The set that is told by such rows that are those of its classes, in the order in which they are reached."""
    if len(rows) > MOST_CLASSES:
        raise TooMany(MOST_CLASSES)
    return Sizes(tuple(rows))


def no_sizes():
    """The empty set."""
    return sizes_of_least(NO_ROWS)


def all_sizes():
    """The set of all sizes."""
    return sizes_of_least(ALL_ROWS)


def sizes_from(k):
    """The set of all sizes from k on."""
    check_size(k)
    return sizes_of_least(rows_from(k))


def rows_from(k):
    """The rows of the classes of all sizes from k on."""
    # A key is what the number of the digits that follow has to reach.
    def step(key, digit):
        return (key - digit + 1) // 2

    def inside(key):
        return key == 0

    return rows_of_keys(k, step, inside, None)


def sizes_upto(k):
    """The set of all sizes up to k."""
    check_size(k)

    # A key is the greatest number that the digits that follow may tell, or -1 if there is none. Behind noughts alone,
    # which the number 0 has, too, it is -2 less that number, which has to be at least 1.
    def step(key, digit):
        if key >= -1:
            return (key - digit) // 2
        if digit == 1:
            return (-3 - key) // 2
        return -2 - (-2 - key) // 2 if key < -3 else -1

    def inside(key):
        return key >= 0

    return sizes_of_least(rows_of_keys(-2 - k, step, inside, None))


def only_sizes(members):
    """The set of the sizes of a tuple."""
    if len(members) > MOST_TOLD:
        raise TooMany(MOST_TOLD)
    for member in members:
        if not is_number(member, 1, MOST_SIZE):
            raise BadSize(member)

    # A key is the tuple of the numbers that the digits that follow may tell; so unlike keys are of unlike classes.
    def step(key, digit):
        return tuple([number // 2 for number in key if number % 2 == digit])

    def inside(key):
        return 0 in key

    return sizes_of_least(rows_of_keys(tuple(sorted(set(members))), step, inside, MOST_CLASSES))


def sizes_rest(r, m):
    """The set of all sizes whose remainder by m is r."""
    check_number(m, 1, MOST_DIVISOR)
    check_number(r, 0, m - 1)

    # A key is the remainder that the number of the digits that follow has to have, and its divisor.
    def step(key, digit):
        rest, divisor = key
        if divisor % 2 == 1:
            left = (rest - digit) % divisor
            return (left if left % 2 == 0 else left + divisor) // 2, divisor
        return ((rest - digit) // 2, divisor // 2) if rest % 2 == digit else (-1, 0)

    def inside(key):
        return key[0] == 0

    return sizes_told(positive_rows(rows_of_keys((r, m), step, inside, None), 0))


def sizes_of_rows(rows):
    """The set that is told by a tuple of tuples (to_zero, to_one, inside)."""
    if len(rows) > MOST_TOLD:
        raise TooMany(MOST_TOLD)
    if len(rows) == 0:
        raise BadNumber(0)
    for index, row in enumerate(rows):
        if not is_row(row, len(rows)):
            raise BadNumber(index)
    return sizes_told(settled_rows(rows))


def sizes_by(start, step, inside):
    """The set that is told by a first key and functions, for the key behind a digit and for what is inside."""
    return sizes_told(settled_rows(rows_of_keys(start, step, inside, MOST_CLASSES)))


def is_row(row, many):
    """Whether any value is a tuple (to_zero, to_one, inside) for many of them."""
    if not isinstance(row, (list, tuple)) or len(row) != 3:
        return False
    zero, one, inside = row
    return is_number(zero, 0, many - 1) and is_number(one, 0, many - 1) and is_number(inside, 0, 1)

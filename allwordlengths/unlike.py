"""What is unlike between programs, each told by the pair of its machines of T and of F."""

from allwordlengths.digitrows import ALL_ROWS, IN_BOTH, IN_FIRST, joined_rows
from allwordlengths.machines import machine_of_sum
from allwordlengths.ranges import least_from
from allwordlengths.seeking import least_first_place
from allwordlengths.silent import is_silent, silent_rows
from allwordlengths.tables import row_search


def differences(one, other):
    """The least machines of the sums of T and of F of two programs."""
    return machine_of_sum(one[0], other[0]), machine_of_sum(one[1], other[1])


def silent_for_both(places, flips):
    """The rows (digitrows.py) of the sizes at which two machines tell 0 for all places."""
    return joined_rows(silent_rows(places), silent_rows(flips), IN_BOTH)


def alike_rows(one, other):
    """The rows of the sizes at which two programs are alike."""
    places, flips = differences(one, other)
    return silent_for_both(places, flips)


def are_alike_at(one, other, k):
    """Whether two programs are alike at a size."""
    # The machines of F are small, so they are asked first.
    return is_silent(machine_of_sum(one[1], other[1]), k) and is_silent(machine_of_sum(one[0], other[0]), k)


def first_difference(one, other):
    """The least size and the least places at which two programs are not alike, or None if there are none.

    It is a tuple (k, i, j); j is None if the flips of bit i are unlike.
    """
    places, flips = differences(one, other)
    k = least_from(joined_rows(ALL_ROWS, silent_for_both(places, flips), IN_FIRST), 1)
    if k is None:
        return None
    flipped = least_first_place(flips, k)
    hung = least_first_place(places, k)
    if hung is None or (flipped is not None and flipped <= hung):
        return k, flipped, None
    return k, hung, row_search(places, hung, k).least_from(0)

"""Whether, at which sizes and where two programs do the same."""

from allwordlengths.checks import check_size
from allwordlengths.digitrows import IN_FIRST, joined_rows
from allwordlengths.ranges import least_from
from allwordlengths.seeking import least_first_place
from allwordlengths.silent import is_silent
from allwordlengths.sizes import ALL_ROWS, sizes_told
from allwordlengths.tables import Table, row_search
from allwordlengths.unlike import alike_rows, differences


def alike(one, other):
    """Whether two programs are alike at all sizes."""
    return Table(one) == Table(other)


def apart_sizes(one, other):
    """The set of the sizes at which two programs are not alike."""
    return sizes_told(apart_rows(machines_told(one), machines_told(other)))


def alike_at(one, other, k):
    """Whether two programs are alike at a size."""
    check_size(k)
    places, flips = differences(machines_told(one), machines_told(other))
    return is_silent(places, k) and is_silent(flips, k)


def first_apart(one, other):
    """The least size, and the least places there, at which two programs are not alike; None if there is none."""
    return first_difference(machines_told(one), machines_told(other))


def machines_told(program):
    """The pair of the machines of T and of F of a program."""
    table = Table(program)
    return table.machine, table.flip_machine


def apart_rows(one, other):
    """The rows of the sizes at which two programs, told by their machines, are not alike."""
    return joined_rows(ALL_ROWS, alike_rows(one, other), IN_FIRST)


def first_difference(one, other):
    """What first_apart tells of two programs that are told by their machines."""
    k = least_from(apart_rows(one, other), 1, 1)
    if k is None:
        return None
    places, flips = differences(one, other)
    flipped = least_first_place(flips, k)
    hung = least_first_place(places, k)
    if hung is None or (flipped is not None and flipped <= hung):
        return k, flipped, None
    return k, hung, row_search(places, hung, k).least_from(0)

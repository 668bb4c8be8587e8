"""Whether, at which sizes and where two programs do the same."""

from allwordlengths.checks import check_size
from allwordlengths.digitrows import ALL_ROWS, IN_FIRST, joined_rows
from allwordlengths.sizes import sizes_told
from allwordlengths.tables import Table, machines_told
from allwordlengths.unlike import alike_rows, are_alike_at, first_difference


def alike(one, other):
    """Whether two programs are alike at all sizes."""
    return Table(one) == Table(other)


def apart_sizes(one, other):
    """The set of the sizes at which two programs are not alike."""
    return sizes_told(joined_rows(ALL_ROWS, alike_rows(machines_told(one), machines_told(other)), IN_FIRST))


def alike_at(one, other, k):
    """Whether two programs are alike at a size."""
    check_size(k)
    return are_alike_at(machines_told(one), machines_told(other), k)


def first_apart(one, other):
    """The least size, and the least places there, at which two programs are not alike; None if there is none."""
    return first_difference(machines_told(one), machines_told(other))

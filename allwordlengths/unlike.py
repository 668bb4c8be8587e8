"""What is unlike between programs, each told by the pair of its machines of T and of F."""

from allwordlengths.digitrows import IN_BOTH, joined_rows
from allwordlengths.machines import machine_of_sum
from allwordlengths.silent import silent_rows


def differences(one, other):
    """The least machines of the sums of T and of F of two programs."""
    return machine_of_sum(one[0], other[0]), machine_of_sum(one[1], other[1])


def alike_rows(one, other):
    """The rows (digitrows.py) of the sizes at which two programs are alike."""
    places, flips = differences(one, other)
    return joined_rows(silent_rows(places), silent_rows(flips), IN_BOTH)

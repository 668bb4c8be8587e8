"""At which sizes a bit hangs on another one, has the flip 1, or is the same as one behind another program."""

from allwordlengths.chains import FLIP_LETTERS, chained
from allwordlengths.checks import is_number
from allwordlengths.digitrows import ALL_ROWS, IN_BOTH, IN_FIRST, joined_rows
from allwordlengths.errors import BadPlace
from allwordlengths.machines import machine_of_sum
from allwordlengths.rules import is_zero
from allwordlengths.silent import silent_rows
from allwordlengths.sizes import rows_from, sizes_told
from allwordlengths.tables import Table

MOST_PLACE = 99
LEAST_PLACE = -100


def hangs_sizes(program, i, j):
    """The set of the sizes at which bit i behind a program hangs on bit j ahead of it."""
    check_place(i)
    check_place(j)
    return sizes_with_one(picked(j, picked(i, Table(program).machine)))


def flipped_sizes(program, i):
    """The set of the sizes at which bit i behind a program has the flip 1."""
    check_place(i)
    return sizes_with_one(picked(i, Table(program).flip_machine))


def same_bit_sizes(one, i, other, j):
    """The set of the sizes at which bit i behind one program is the same as bit j behind another one for each word."""
    check_place(i)
    check_place(j)
    first = Table(one)
    second = Table(other)
    hung = machine_of_sum(picked(i, first.machine), picked(j, second.machine))
    flips = machine_of_sum(picked(i, first.flip_machine), picked(j, second.flip_machine))
    same = joined_rows(silent_rows(hung), silent_rows(flips), IN_BOTH)
    return sizes_told(joined_rows(same, rows_from(max(least_size(i), least_size(j))), IN_BOTH))


def check_place(place):
    """Refuse any value that does not tell a place from the beginning or from the end."""
    if not is_number(place, LEAST_PLACE, MOST_PLACE):
        raise BadPlace(place)


def least_size(place):
    """The least size that has a place."""
    return place + 1 if place >= 0 else -place


def picked(place, machine):
    """The least machine of what a machine tells for a place, which is told by the first digits of its letters."""
    # A place from the end is the size less a number.
    test = is_zero((1, 0), -place) if place >= 0 else is_zero((1, -1), -place)
    return chained([(test,)], FLIP_LETTERS, machine, None)


def sizes_with_one(machine):
    """The set of the sizes for which a machine of sizes alone tells 1."""
    return sizes_told(joined_rows(ALL_ROWS, silent_rows(machine), IN_FIRST))

"""At which sizes machines tell the same values for all places."""

from allwordlengths.machines import machine_of_sum
from allwordlengths.silent import silent_rows
from allwordlengths.sizes import sizes_told


def agree_sizes(one, other):
    """The set of the sizes at which two machines with the same letters tell the same values for all places."""
    return zero_sizes(machine_of_sum(one, other))


def zero_sizes(machine):
    """The set of the sizes at which a machine tells the value 0 for all places."""
    return sizes_told(silent_rows(machine))

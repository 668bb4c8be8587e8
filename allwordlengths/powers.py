"""At which sizes programs that are done one behind the other take each other back, or may change places."""

from allwordlengths.chains import machines_of
from allwordlengths.checks import check_number
from allwordlengths.sizes import sizes_told
from allwordlengths.unlike import alike_rows

MOST_TIMES = 8


def back_sizes(program, times):
    """The set of the sizes at which each word is as it was once a program is done so many times."""
    check_number(times, 1, MOST_TIMES)
    return idle_sizes(list(program.steps) * times)


def commute_sizes(one, other):
    """The set of the sizes at which it is all the same which one of two programs is done first."""
    first = machines_of([*one.steps, *other.steps])
    second = machines_of([*other.steps, *one.steps])
    return sizes_told(alike_rows(first, second))


def takes_back_sizes(one, other):
    """The set of the sizes at which one program and then the other leave each word as it is."""
    return idle_sizes([*one.steps, *other.steps])


def idle_sizes(steps):
    """The set of the sizes at which steps, as many as there may be, leave each word as it is."""
    return sizes_told(alike_rows(machines_of(steps), machines_of([])))

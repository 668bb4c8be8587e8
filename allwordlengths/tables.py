"""Tables of programs for all sizes: on which bits each bit of the result hangs, and where 1 is added."""

from allwordlengths.chains import machines_of
from allwordlengths.checks import check_count, check_number, check_size
from allwordlengths.machines import ends_mask, followed
from allwordlengths.seeking import Search
from allwordlengths.vectors import parity

MOST_LISTED = 1000


class Table:
    """The table of a program for every size."""

    def __init__(self, program):
        table, flips = machines_of(program.steps)
        self.program = program
        self.machine = table
        self.flip_machine = flips

    def __eq__(self, other):
        return (isinstance(other, Table) and self.machine == other.machine
                and self.flip_machine == other.flip_machine)

    def at(self, i, j, k):
        """1 if bit i of the result hangs on bit j for words of k bits, 0 otherwise."""
        check_count(i)
        check_count(j)
        check_size(k)
        return told_for(self.machine, (i, j), k)

    def flip(self, i, k):
        """1 if 1 is added at the place i for words of k bits, 0 otherwise."""
        check_count(i)
        check_size(k)
        return told_for(self.flip_machine, (i,), k)

    def row(self, i, k, most):
        """The tuple of the places, at most most, on which bit i of the result hangs for words of k bits."""
        check_count(i)
        check_size(k)
        check_number(most, 0, MOST_LISTED)
        return tuple(row_search(self.machine, i, k).listed(most))

    def next_in_row(self, i, k, low):
        """The least place not below low on which bit i of the result hangs for words of k bits, or None."""
        check_count(i)
        check_size(k)
        check_count(low)
        return row_search(self.machine, i, k).least_from(low)

    def column(self, j, k, most):
        """The tuple of the places, at most most, whose bits in the result hang on bit j for words of k bits."""
        check_count(j)
        check_size(k)
        check_number(most, 0, MOST_LISTED)
        return tuple(column_search(self.machine, j, k).listed(most))

    def next_in_column(self, j, k, low):
        """The least place not below low whose bit in the result hangs on bit j for words of k bits, or None."""
        check_count(j)
        check_size(k)
        check_count(low)
        return column_search(self.machine, j, k).least_from(low)


def machines_told(program):
    """The pair of the machines of T and of F of a program; it is refused as Table refuses it."""
    return machines_of(program.steps)


def digits_of(number, many):
    """The text of the many lowest digits of a number to the base 2, the lowest one first."""
    text = f"{number:b}"
    return text.zfill(many)[::-1][:many]


def told_for(machine, places, k):
    """The value that a machine tells for places and a size."""
    if max(places) >= k:
        return 0
    many = k.bit_length()
    letters = [""] * many
    for number in (*places, k):
        letters = [f"{letter}{digit}" for letter, digit in zip(letters, digits_of(number, many))]
    return parity(followed(machine, letters) & ends_mask(machine))


def row_search(machine, i, k):
    """The search among the places j for a place i and a size k."""
    forks = [(f"{digit}0{last}", f"{digit}1{last}") for digit, last in known_digits(i, k)]
    return Search(machine, forks)


def column_search(machine, j, k):
    """The search among the places i for a place j and a size k."""
    forks = [(f"0{digit}{last}", f"1{digit}{last}") for digit, last in known_digits(j, k)]
    return Search(machine, forks)


def known_digits(place, k):
    """The list of the pairs of a digit of a place and one of a size."""
    # Without digits a search finds nothing, and nothing is to be found for what is no place.
    many = k.bit_length() if place < k else 0
    return list(zip(digits_of(place, many), digits_of(k, many)))

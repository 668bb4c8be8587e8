"""The sizes at which a machine tells 0 for all places.

They are found by the digits of the size, the lowest one first: what is kept are all sums of what can come behind them,
whatever the digits of the places are. So no size is tried.
"""

from allwordlengths.bits import full
from allwordlengths.digitrows import least_rows, positive_rows, rows_of_keys
from allwordlengths.machines import ends_mask, start_mask
from allwordlengths.vectors import parity, spanned, summed


class Silence:
    """What is asked of a machine: whether it tells 0 for all places and a size.

    A key is the tuple of vectors that tells all sums of what comes behind the digits of a size that have been read.
    """

    def __init__(self, machine):
        self.start = spanned([start_mask(machine)])
        self.ends = ends_mask(machine)
        self.wide = machine.states
        # For each digit of the size, and for each new path, what comes behind it by each letter, side by side.
        self.units = [ways_by(machine, digit) for digit in "01"]
        self.letters = len(machine.letters) // 2

    def behind(self, key, digit):
        """The key behind one more digit."""
        whole = full(self.wide)
        found = []
        for vector in key:
            ways = summed(self.units[digit], vector)
            found.extend([(ways >> (self.wide * at)) & whole for at in range(self.letters)])
        return spanned(found)

    def holds(self, key):
        """Whether all values are 0 if no digits 1 follow."""
        return all([parity(vector & self.ends) == 0 for vector in key])


def ways_by(machine, digit):
    """For each new path what comes behind it by each letter that has a digit of the size, side by side."""
    images = [machine.images[letter] for letter in machine.letters if letter[-1] == digit]
    wide = machine.states
    return [sum([image[state] << (wide * at) for at, image in enumerate(images)]) for state in range(wide)]


def silent_rows(machine):
    """The rows (digitrows.py) of the sizes at which a machine tells 0 for all places."""
    silence = Silence(machine)
    return least_rows(positive_rows(rows_of_keys(silence.start, silence.behind, silence.holds, None), 0), None)


def is_silent(machine, k):
    """Whether a machine tells 0 for all places and a size."""
    silence = Silence(machine)
    key = silence.start
    told = {}
    for place in range(k.bit_length()):
        way = (key, (k >> place) & 1)
        if way not in told:
            told[way] = silence.behind(key, way[1])
        key = told[way]
    return silence.holds(key)

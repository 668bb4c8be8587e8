"""At which sizes machines tell the same values for all places."""

from allwordlengths.machines import ends_mask, start_mask
from allwordlengths.sizes import sizes_of_keys
from allwordlengths.vectors import parity, spanned, summed


def agree_sizes(one, other):
    """The set of the sizes at which two machines with the same letters tell the same values for all places."""
    return silent_sizes([one, other])


def zero_sizes(machine):
    """The set of the sizes at which a machine tells the value 0 for all places."""
    return silent_sizes([machine])


def silent_sizes(machines):
    """The set of the sizes at which the sum of the values of machines is 0 for all places."""
    letters = machines[0].letters
    images = {letter: [] for letter in letters}
    start = 0
    ends = 0
    for machine in machines:
        below = len(images[letters[0]])
        start = start | (start_mask(machine) << below)
        ends = ends | (ends_mask(machine) << below)
        for letter in letters:
            images[letter].extend([mask << below for mask in machine.images[letter]])

    # A key tells all sums of what comes behind some digits of the size, whatever those of the places are.
    def step(key, digit):
        chosen = [images[word] for word in letters if word[-1] == str(digit)]
        return spanned([summed(rows, vector) for rows in chosen for vector in key])

    def inside(key):
        return all([parity(vector & ends) == 0 for vector in key])

    return sizes_of_keys(spanned([start]), step, inside, None)

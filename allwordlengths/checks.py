"""Checks of values that several modules are passed."""

from allwordlengths.errors import BadBits, BadSize

MOST_BITS = 1000


def is_number(value, low, high):
    """Whether any value is an integer from low to high; True and False are no integers here."""
    return isinstance(value, int) and not isinstance(value, bool) and low <= value <= high


def word_of_bits(bits):
    """The tuple of the bits of a list or tuple that is a word of bits."""
    if not 1 <= len(bits) <= MOST_BITS:
        raise BadSize(len(bits))
    for index, bit in enumerate(bits):
        if not is_number(bit, 0, 1):
            raise BadBits(index)
    # By way of a list, as the tuple of a tuple would be the very tuple that was passed.
    return tuple(list(bits))

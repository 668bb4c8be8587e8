"""Checks of values that several modules are passed."""

from allwordlengths.errors import BadBits, BadNumber, BadSize

MOST_BITS = 1000
MOST_SIZE = 10 ** 30


def is_number(value, low, high):
    """Whether any value is an integer from low to high; True and False are no integers here."""
    return isinstance(value, int) and not isinstance(value, bool) and low <= value <= high


def check_number(value, low, high):
    """Refuse any value that is not an integer from low to high."""
    if not is_number(value, low, high):
        raise BadNumber(value)


def check_count(value):
    """Refuse any value that is not an integer from 0 on."""
    if not isinstance(value, int) or isinstance(value, bool) or value < 0:
        raise BadNumber(value)


def check_size(size):
    """Refuse any value that is not a size."""
    if not is_number(size, 1, MOST_SIZE):
        raise BadSize(size)


def word_of_bits(bits, most=MOST_BITS):
    """The tuple of the bits of a list or tuple that is a word of at most most bits."""
    if not 1 <= len(bits) <= most:
        raise BadSize(len(bits))
    for index, bit in enumerate(bits):
        if not is_number(bit, 0, 1):
            raise BadBits(index)
    # By way of a list, as the tuple of a tuple would be the very tuple that was passed.
    return tuple(list(bits))


def is_word(value):
    """Whether any value is a word of bits of at most 1000 bits."""
    if not isinstance(value, (list, tuple)) or not 1 <= len(value) <= MOST_BITS:
        return False
    return all([is_number(bit, 0, 1) for bit in value])

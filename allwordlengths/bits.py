"""The bits 1 of integers that stand for sets of numbers."""


def bits_of(mask):
    """The list of the places of the bits 1 of an integer from 0 on, ascending."""
    text = f"{mask:b}"
    return [place for place, sign in enumerate(text[::-1]) if sign == "1"]


def full(many):
    """The integer whose many lowest bits are 1, and no others."""
    return (1 << many) - 1


def many_bits(mask):
    """How many bits 1 an integer from 0 on has."""
    text = f"{mask:b}"
    return text.count("1")

"""Sums modulo 2 of vectors. A vector is an integer from 0 on, with a bit for each number that it has."""

from allwordlengths.bits import bits_of


def summed(rows, mask):
    """The sum of those rows whose places are the bits 1 of a mask."""
    text = f"{mask:b}"
    total = 0
    for row, sign in zip(rows, text[::-1]):
        if sign == "1":
            total = total ^ row
    return total


def parity(mask):
    """The sum of the bits of an integer from 0 on."""
    text = f"{mask:b}"
    return text.count("1") % 2


def transposed(rows, many):
    """The many columns of rows: the bit n of the column c is the bit c of the row n."""
    columns = [0] * many
    for place, row in enumerate(rows):
        for column in bits_of(row):
            columns[column] = columns[column] | (1 << place)
    return columns


def sifted(known, vector):
    """What is left of a vector when known ones are added, and the mask of the vectors whose sum these are.

    known has, under its length, a pair for each known vector: it and the mask of the vectors whose sum it is.
    """
    left = vector
    mask = 0
    while left.bit_length() in known:
        other, parts = known[left.bit_length()]
        left = left ^ other
        mask = mask ^ parts
    return left, mask


def kept(known, vectors, vector):
    """The mask of those vectors of a list whose sum a vector is; if it is the sum of none, it is put behind them."""
    left, mask = sifted(known, vector)
    if left == 0:
        return mask
    own = 1 << len(vectors)
    known[left.bit_length()] = (left, mask ^ own)
    vectors.append(vector)
    return own


def spanned(vectors):
    """The one tuple of vectors that tells all sums of the given ones: ascending, each highest bit in one alone."""
    known = {}
    for vector in vectors:
        left, _ = sifted(known, vector)
        if left > 0:
            known[left.bit_length()] = (left, 0)
    found = []
    for length in sorted(known):
        left, _ = known[length]
        for lower in found:
            if (left >> (lower.bit_length() - 1)) & 1 == 1:
                left = left ^ lower
        found.append(left)
    return tuple(found)

"""Sums modulo 2 of vectors. A vector is an integer from 0 on, with a bit for each number that it has."""

from allwordlengths.bits import full
from allwordlengths.errors import TooLarge


def summed(rows, mask):
    """The sum of those rows whose places are the bits 1 of a mask."""
    total = 0
    left = mask
    while left > 0:
        place = left.bit_length() - 1
        total = total ^ rows[place]
        left = left ^ (1 << place)
    return total


def parity(mask):
    """The sum of the bits of an integer from 0 on."""
    text = f"{mask:b}"
    return text.count("1") % 2


def padded(mask, many):
    """The text of the bits of a mask, which has at most so many of them, the highest one first."""
    text = f"{mask:b}"
    return text.zfill(many)


def columns_of(rows, many):
    """The list of the many columns of rows: the bit n of the column c is the bit c of the row n."""
    if len(rows) == 0:
        return [0] * many
    text = "".join([padded(row, many) for row in rows[::-1]])
    return [int(text[many - 1 - column::many], 2) for column in range(many)]


def sifted(known, vector):
    """What is left of a vector when known ones are added, and the mask of the vectors whose sum these are.

    known has, under its length, a pair for each known vector: it and the mask of the vectors whose sum it is.
    """
    left = vector
    mask = 0
    while left.bit_length() in known:
        other, parts = known[left.bit_length()]
        left = left ^ other
        mask = mask ^ parts
    return left, mask


class Basis:
    """A list of vectors none of which is a sum of those ahead of it."""

    def __init__(self):
        self.vectors = []
        self.known = {}
        # For each vector that was asked for before, the mask of those whose sum it is.
        self.told = {0: 0}

    def mask_of(self, vector):
        """The mask of those vectors whose sum a vector is; if it is the sum of none, it is put behind them."""
        if vector not in self.told:
            left, mask = sifted(self.known, vector)
            if left > 0:
                own = 1 << len(self.vectors)
                self.known[left.bit_length()] = (left, mask ^ own)
                self.vectors.append(vector)
                mask = own
            self.told[vector] = mask
        return self.told[vector]


def reached_from(start, steps, many, wide, most):
    """The vectors that are reached from one by steps and are not sums of earlier ones, and where each step leads.

    There are many steps. For each bit of a vector steps has what they make of it: a vector of wide bits for each step,
    side by side in one integer. Where they lead is told by a list for each vector, with the mask of the vectors whose
    sum it is for each step. It is refused if there are more than most vectors; most may be None.
    """
    basis = Basis()
    basis.mask_of(start)
    whole = full(wide)
    rows = []
    while len(rows) < len(basis.vectors):
        found = summed(steps, basis.vectors[len(rows)])
        rows.append([basis.mask_of((found >> (wide * step)) & whole) for step in range(many)])
        if most is not None and len(basis.vectors) > most:
            raise TooLarge(most)
    return basis.vectors, rows


def spanned(vectors):
    """The one tuple of vectors that tells all sums of the given ones: ascending, each highest bit in one alone."""
    known = {}
    for vector in vectors:
        left, _ = sifted(known, vector)
        if left > 0:
            known[left.bit_length()] = (left, 0)
    found = []
    for length in sorted(known):
        left, _ = known[length]
        for lower in found:
            if (left >> (lower.bit_length() - 1)) & 1 == 1:
                left = left ^ lower
        found.append(left)
    return tuple(found)

"""Sets of places of one size, also of very many places."""

from allwordlengths.bits import full
from allwordlengths.checks import check_count, check_number, check_size, is_number, word_of_bits
from allwordlengths.errors import BadNumber, BadSize, TooMany
from allwordlengths.pieces import (
    BASE, added, class_mask, deepened, is_marked, many_below, marked_places, merged, place_of, tidied, width,
)

MOST_RUNS = 20
MOST_STEP = 4
MOST_TOLD_BITS = 60
MOST_LISTED = 1000


class Marks:
    """A set of places, told by runs: the places that stand in an odd number of them."""

    def __init__(self, size, runs=()):
        check_size(size)
        if len(runs) > MOST_RUNS:
            raise TooMany(MOST_RUNS)
        for index, run in enumerate(runs):
            if not is_run(run, size):
                raise BadNumber(index)
        self.size = size
        self.depth = 0
        self.pieces = pieces_of_runs(size, runs)

    @classmethod
    def of_bits(cls, bits):
        """The Marks of the places of the bits 1 of a word of bits."""
        word = word_of_bits(bits, MOST_TOLD_BITS)
        marks = cls(len(word))
        marks.pieces = tidied([(place + 1, full(BASE) * bit) for place, bit in enumerate(word)])
        return marks

    def __contains__(self, x):
        return is_number(x, 0, self.size - 1) and is_marked(self.pieces, width(self.depth), x)

    def __eq__(self, other):
        return isinstance(other, Marks) and self.size == other.size and are_same(self, other)

    def __xor__(self, other):
        return joined(self, other, [(end, mask ^ more) for end, mask, more in beside(self, other)])

    def __and__(self, other):
        return joined(self, other, [(end, mask & more) for end, mask, more in beside(self, other)])

    def __or__(self, other):
        return joined(self, other, [(end, mask | more) for end, mask, more in beside(self, other)])

    def __sub__(self, other):
        return joined(self, other, [(end, mask & ~more) for end, mask, more in beside(self, other)])

    def __invert__(self):
        whole = full(width(self.depth))
        return marks_of(self.size, self.depth, [(end, mask ^ whole) for end, mask in self.pieces])

    def many(self):
        """The number of marked places."""
        return many_below(self.pieces, width(self.depth), self.size)

    def is_none(self):
        """Whether there are no marked places."""
        return self.many() == 0

    def below(self, j):
        """The number of marked places below the place j."""
        check_number(j, 0, self.size)
        return many_below(self.pieces, width(self.depth), j)

    def next_from(self, j):
        """The least marked place that is not below j, or None."""
        check_count(j)
        return self.nth(self.below(min(j, self.size)))

    def last_upto(self, j):
        """The greatest marked place that is not above j, or None."""
        check_count(j)
        many = self.below(min(j + 1, self.size))
        return self.nth(many - 1) if many > 0 else None

    def nth(self, n):
        """The marked place that has exactly n marked places below it, or None."""
        check_count(n)
        return place_of(self.pieces, width(self.depth), n)

    def listed(self, most):
        """The tuple of the marked places, which are at most most."""
        check_number(most, 0, MOST_LISTED)
        if self.many() > most:
            raise TooMany(most)
        return tuple(marked_places(self.pieces, width(self.depth)))

    def as_bits(self):
        """The word of bits that has the bits 1 at the marked places."""
        if self.size > MOST_LISTED:
            raise BadSize(self.size)
        word = [0] * self.size
        for place in marked_places(self.pieces, width(self.depth)):
            word[place] = 1
        return tuple(word)


def is_run(run, size):
    """Whether any value is a run of places of a size."""
    if not isinstance(run, (list, tuple)) or len(run) != 3:
        return False
    first, last, step = run
    return is_number(last, 0, size - 1) and is_number(first, 0, last) and is_number(step, 1, MOST_STEP)


def pieces_of_runs(size, runs):
    """The pieces of the places that stand in an odd number of runs."""
    pieces = [(size, 0)]
    for first, last, step in runs:
        places = class_mask(BASE, first % step, step)
        pieces = added(pieces, [(first, 0), (last + 1, places), (size, 0)])
    return pieces


def marks_of(size, depth, pieces):
    """The Marks of a size and a depth with these pieces."""
    marks = Marks(size)
    marks.depth = depth
    marks.pieces = tidied(pieces)
    return marks


def beside(one, other):
    """For all breaks of two Marks of one size the triples (end, mask of one, mask of other), with one period."""
    if one.size != other.size:
        raise BadSize(other.size)
    depth = max(one.depth, other.depth)
    return merged(deepened(one.pieces, one.depth, depth), deepened(other.pieces, other.depth, depth))


def joined(one, other, pieces):
    """The Marks with the pieces that are made of those of two Marks."""
    return marks_of(one.size, max(one.depth, other.depth), pieces)


def are_same(one, other):
    """Whether two Marks of one size mark the same places."""
    # Masks may be unlike at places that a short piece does not have, so the places are counted.
    pieces = [(end, mask ^ more) for end, mask, more in beside(one, other)]
    return many_below(pieces, width(max(one.depth, other.depth)), one.size) == 0

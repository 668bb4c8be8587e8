"""Sets of places of a size that repeat from one break to the next.

Pieces are a list or tuple of pairs (end, mask), the ends ascending up to the size. A piece reaches from the end of the
one ahead of it, or from 0, to its own end, which it does not include. The place j in it is marked if the bit j % wide
of mask is 1; wide, the period, is a multiple of 12, so that the places R of M repeat with it.
"""

from allwordlengths.bits import bits_of, full, many_bits

BASE = 12


def width(depth):
    """The period of pieces of a depth."""
    return BASE << depth


def class_mask(wide, at, of):
    """The mask that marks the places whose remainder by `of` is `at`."""
    return sum([1 << place for place in range(at, wide, of)])


def rotated(mask, wide, by):
    """The mask of the places that are `by` further than those of a mask."""
    turn = by % wide
    return ((mask << turn) | (mask >> (wide - turn))) & full(wide)


def tidied(pieces):
    """The pieces without those that have no places, neighbours with equal masks made one."""
    found = []
    start = 0
    for end, mask in pieces:
        if end > start:
            if found and found[-1][1] == mask:
                found.pop()
            found.append((end, mask))
            start = end
    return found


def deepened(pieces, depth, more):
    """The same pieces of a depth, told with the period of a greater depth."""
    found = pieces
    for level in range(depth, more):
        wide = width(level)
        found = [(end, mask | (mask << wide)) for end, mask in found]
    return found


def merged(one, other):
    """For all breaks of two lists of pieces the triples (end, mask of one, mask of other)."""
    found = []
    spot = 0
    for end, mask in one:
        while other[spot][0] < end:
            found.append((other[spot][0], mask, other[spot][1]))
            spot = spot + 1
        found.append((end, mask, other[spot][1]))
    return found


def added(one, other):
    """The pieces of the places that are marked in just one of two lists of pieces."""
    return tidied([(end, mask ^ more) for end, mask, more in merged(one, other)])


def chosen(pieces, wide, rest):
    """The pieces of those marked places that are the places R of M; without the pair (R, M) all are."""
    if rest is None:
        return pieces
    choice = class_mask(wide, rest[0], rest[1])
    return [(end, mask & choice) for end, mask in pieces]


def between(size, wide, first, end):
    """The pieces that mark all places from first to end, which is not included."""
    return tidied([(first, 0), (end, full(wide)), (size, 0)])


def shifted(pieces, size, wide, by):
    """The pieces of the places that are `by` further than the marked ones, as far as they are places."""
    found = [(min(max(by, 0), size), 0)]
    for end, mask in pieces:
        found.append((min(max(end + by, 0), size), rotated(mask, wide, by)))
    found.append((size, 0))
    return tidied(found)


def is_marked(pieces, wide, place):
    """Whether a place is marked."""
    for end, mask in pieces:
        if place < end:
            return (mask >> (place % wide)) & 1 == 1
    return False


def many_upto(mask, wide, place):
    """How many places below a place are marked if the mask holds for all of them."""
    laps, rest = divmod(place, wide)
    return laps * many_bits(mask) + many_bits(mask & full(rest))


def many_below(pieces, wide, place):
    """How many places below a place are marked."""
    many = 0
    start = 0
    for end, mask in pieces:
        if start < place:
            many = many + many_upto(mask, wide, min(end, place)) - many_upto(mask, wide, start)
        start = end
    return many


def place_of(pieces, wide, number):
    """The marked place that has a number of marked places below it, or None."""
    left = number
    start = 0
    for end, mask in pieces:
        ahead = many_upto(mask, wide, start)
        many = many_upto(mask, wide, end) - ahead
        if left < many:
            spots = bits_of(mask)
            laps, rest = divmod(ahead + left, len(spots))
            return laps * wide + spots[rest]
        left = left - many
        start = end
    return None


def marked_places(pieces, wide):
    """The list of the marked places, ascending."""
    found = []
    start = 0
    for end, mask in pieces:
        spots = bits_of(mask)
        for number in range(many_upto(mask, wide, start), many_upto(mask, wide, end)):
            laps, rest = divmod(number, len(spots))
            found.append(laps * wide + spots[rest])
        start = end
    return found

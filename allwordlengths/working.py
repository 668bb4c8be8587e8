"""What steps make of pieces, for words of any size; the period is twice that of the pieces ahead of the step."""

from allwordlengths.bits import full
from allwordlengths.pieces import added, between, chosen, class_mask, is_marked, many_below, rotated, shifted, tidied
from allwordlengths.steps import FLIPS, MOVES


def worked(step, size, wide, pieces):
    """The pieces of the result of a step."""
    if step.kind in MOVES:
        return moved(step.kind, step.by, size, wide, pieces)
    if step.kind in FLIPS:
        return added(pieces, flips_of(step, size, wide))
    if step.kind == "gather":
        return gathered(size, wide, pieces)
    if step.kind == "spread":
        return spread_out(size, wide, pieces)
    if step.kind == "near":
        more = shifted(pieces, size, wide, -step.by)
    else:
        more = added(pieces, sums(step.by, size, wide, pieces))
    return added(pieces, chosen(more, wide, step.rest))


def drawn_back(step, size, wide, pieces):
    """The pieces of the places whose bits ahead of a step have, but for flips, the sum of those marked behind it."""
    if step.kind in MOVES:
        back = ~step
        return moved(back.kind, back.by, size, wide, pieces)
    if step.kind in FLIPS:
        return pieces
    if step.kind == "gather":
        return spread_out(size, wide, pieces)
    if step.kind == "spread":
        return gathered(size, wide, pieces)
    if step.kind == "near":
        return added(pieces, shifted(chosen(pieces, wide, step.rest), size, wide, step.by))
    # M divides C, so a sum does not leave the places R of M.
    more = added(pieces, sums(-step.by, size, wide, pieces))
    return added(pieces, chosen(more, wide, step.rest))


def flips_of(step, size, wide):
    """The pieces of the places that a flip flips."""
    if step.kind == "flip first":
        return between(size, wide, 0, 1)
    if step.kind == "flip last":
        return between(size, wide, size - 1, size)
    return chosen(between(size, wide, 0, size), wide, step.rest)


def gathered(size, wide, pieces):
    """The pieces behind `gather`."""
    first = is_marked(pieces, wide, 0)
    if many_below(pieces, wide, size) % 2 == int(first):
        return pieces
    return added(pieces, between(size, wide, 0, 1))


def spread_out(size, wide, pieces):
    """The pieces behind `spread`."""
    if not is_marked(pieces, wide, 0):
        return pieces
    return added(pieces, between(size, wide, 1, size))


def moved(kind, by, size, wide, pieces):
    """The pieces behind a move."""
    if kind == "turn":
        return turned(size, wide, pieces)
    if kind == "roll":
        further = by % size
        return added(shifted(pieces, size, wide, further), shifted(pieces, size, wide, further - size))
    if kind == "deal":
        return dealt(size, wide, pieces)
    if kind == "undeal":
        return undealt(size, wide, pieces)
    return swapped(size, wide, pieces)


def turned(size, wide, pieces):
    """The pieces behind `turn`."""
    found = []
    start = 0
    for end, mask in pieces:
        text = f"{mask:b}"
        found.append((size - start, rotated(int(text.zfill(wide)[::-1], 2), wide, size)))
        start = end
    return tidied(found[::-1])


def swapped(size, wide, pieces):
    """The pieces behind `swap`."""
    evens = chosen(shifted(pieces, size, wide, -1), wide, (0, 2))
    odds = chosen(shifted(pieces, size, wide, 1), wide, (1, 2))
    both = added(evens, odds)
    if size % 2 == 1 and is_marked(pieces, wide, size - 1):
        return added(both, between(size, wide, size - 1, size))
    return both


def dealt(size, wide, pieces):
    """The pieces behind `deal`."""
    evens = (size + 1) // 2
    front = []
    back = [(evens, 0)]
    for end, mask in pieces:
        text = f"{mask:b}"
        # The digits stand with the highest place first, and wide is even: those of odd places come first.
        digits = text.zfill(wide)
        front.append(((end + 1) // 2, int(digits[1::2] * 2, 2)))
        back.append((evens + end // 2, rotated(int(digits[::2] * 2, 2), wide, evens)))
    return tidied([*front, *back])


def undealt(size, wide, pieces):
    """The pieces behind `undeal`."""
    evens = (size + 1) // 2
    front = []
    back = []
    for end, mask in pieces:
        front.append((min(2 * end, size), spaced(mask, wide)))
        back.append((2 * max(end - evens, 0), spaced(rotated(mask, wide, -evens), wide) << 1))
    back.append((size, 0))
    return added(tidied(front), tidied(back))


def spaced(mask, wide):
    """The mask that has at the place 2 * r the bit r of a mask, whose period is half of wide."""
    half = mask & full(wide // 2)
    text = f"{half:b}"
    return int("0".join(text), 2)


def sums(by, size, wide, pieces):
    """The pieces behind `sum by`."""
    if by < 0:
        return turned(size, wide, sums(-by, size, wide, turned(size, wide, pieces)))
    starts = [0, *[end for end, _ in pieces]]
    found = []
    # The mask of all places whose class, modulo by, has the sum 1 from the end of the piece on.
    carry = 0
    for start, (end, mask) in list(zip(starts, pieces))[::-1]:
        total = rotated(sums_ahead(rotated(mask, wide, -end), wide, by), wide, end) ^ carry
        found.append((end, total))
        carry = carried(start, end, total, carry, wide, by)
    return tidied(found[::-1])


def sums_ahead(window, wide, by):
    """For each bit of a window of wide places the sum of it and of all that are a multiple of `by` further."""
    total = window
    step = by
    while step < wide:
        total = total ^ (total >> step)
        step = 2 * step
    return total


def carried(start, end, total, carry, wide, by):
    """The carry at the start of a piece."""
    found = 0
    for place in range(start, start + by):
        known = total if place < end else carry
        if (known >> (place % wide)) & 1 == 1:
            found = found | class_mask(wide, place % by, by)
    return found

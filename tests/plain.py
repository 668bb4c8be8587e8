"""A second reading of the document, as plain as can be, that the tests compare the program with."""

from itertools import product

BY = (-3, -2, -1, 1, 2, 3)
PAIRS = [(rest, of) for of in (2, 3, 4) for rest in range(of)]


def expected_steps():
    """For each text of a step its kind, number C, pair (R, M) and the text of its inverse."""
    steps = {}
    for kind in ("turn", "swap", "gather", "spread", "flip first", "flip last"):
        steps[kind] = (kind, None, None, kind)
    steps["deal"] = ("deal", None, None, "undeal")
    steps["undeal"] = ("undeal", None, None, "deal")
    for at, of in PAIRS:
        text = "flip %d of %d" % (at, of)
        steps[text] = ("flip", None, (at, of), text)
    for by in BY:
        steps["roll %d" % by] = ("roll", by, None, "roll %d" % -by)
        steps["near %d" % by] = ("near", by, None, "sum %d" % by)
        steps["sum %d" % by] = ("sum", by, None, "near %d" % by)
        for at, of in PAIRS:
            near = "near %d at %d of %d" % (by, at, of)
            total = "sum %d at %d of %d" % (by, at, of)
            if by % of == 0:
                steps[near] = ("near", by, (at, of), total)
                steps[total] = ("sum", by, (at, of), near)
            else:
                steps[near] = ("near", by, (at, of), near)
    return steps


def dealt(word):
    return [bit for place, bit in enumerate(word) if place % 2 == 0] + [
        bit for place, bit in enumerate(word) if place % 2 == 1]


def undealt(word):
    places = dealt(range(len(word)))
    result = [None] * len(word)
    for bit, place in zip(word, places):
        result[place] = bit
    return result


def swapped(word):
    result = list(word)
    for place in range(0, len(word) - 1, 2):
        result[place], result[place + 1] = word[place + 1], word[place]
    return result


def told(word, place, kind, by):
    """The bit that `near C` or `sum C` puts at a place."""
    if kind == "near":
        places = [place, place + by]
    else:
        places = [place + by * times for times in range(len(word))]
    return sum(word[j] for j in places if 0 <= j < len(word)) % 2


def expected_result(kind, by, pair, word):
    """The result of a step, bit by bit."""
    size = len(word)
    whole = {
        "turn": lambda: word[::-1],
        "roll": lambda: [word[(i - by) % size] for i in range(size)],
        "deal": lambda: dealt(word),
        "undeal": lambda: undealt(word),
        "swap": lambda: swapped(word),
        "gather": lambda: [sum(word) % 2] + list(word[1:]),
        "spread": lambda: [word[0]] + [(bit + word[0]) % 2 for bit in word[1:]],
        "flip first": lambda: [1 - word[0]] + list(word[1:]),
        "flip last": lambda: list(word[:-1]) + [1 - word[-1]],
    }
    if kind in whole:
        return tuple(whole[kind]())
    at, of = pair or (0, 1)
    result = list(word)
    for place in range(size):
        if place % of == at:
            result[place] = 1 - word[place] if kind == "flip" else told(word, place, kind, by)
    return tuple(result)


def words_upto(most):
    """All words of bits of the sizes from 1 to most."""
    return [word for size in range(1, most + 1) for word in product((0, 1), repeat=size)]


def scattered(size, seed):
    """A word of bits without a pattern, the same each time."""
    bits = []
    state = seed
    for _ in range(size):
        state = (state * 1103515245 + 12345) % 2 ** 31
        bits.append(state >> 16 & 1)
    return tuple(bits)


class Odd:
    """A value of no kind that the document knows."""

    def __repr__(self):
        raise RuntimeError("this value cannot be shown")

    __str__ = __repr__


def odd_values():
    """Values that are neither texts nor integers, steps nor programs."""
    return [None, True, False, 1.0, 0.0, 2.5, float("nan"), 1j, b"turn", b"", [], [0], ["turn"], (), (1,), ("turn",),
            {}, {"turn": 1}, set(), {1}, range(3), slice(0, 1), object(), Odd(), Odd, len, ValueError("turn"), ...]

"""Steps: what can be done to a word of bits of any size."""

from allwordlengths.checks import is_number, word_of_bits
from allwordlengths.errors import BadNumber, BadText

MOVES = ("turn", "roll", "deal", "undeal", "swap")
FLIPS = ("flip", "flip first", "flip last")

# The kinds of step whose texts are the kinds themselves.
BARE_KINDS = ("turn", "deal", "undeal", "swap", "gather", "spread", "flip first", "flip last")

# The texts of the numbers C, and those of R and M with the pairs (R, M).
NUMBERS = {"-3": -3, "-2": -2, "-1": -1, "1": 1, "2": 2, "3": 3}
RESTS = {
    "0 of 2": (0, 2), "1 of 2": (1, 2),
    "0 of 3": (0, 3), "1 of 3": (1, 3), "2 of 3": (2, 3),
    "0 of 4": (0, 4), "1 of 4": (1, 4), "2 of 4": (2, 4), "3 of 4": (3, 4),
}

# The kinds whose inverses are of another kind.
OTHER_KINDS = {"deal": "undeal", "undeal": "deal", "near": "sum", "sum": "near"}


class Step:
    """A step, told by its text."""

    def __init__(self, text):
        parts = step_parts(text)
        if parts is None:
            raise BadText(text)
        kind, by, rest = parts
        self.text = text
        self.kind = kind
        self.by = by
        self.rest = rest

    def __eq__(self, other):
        return isinstance(other, Step) and self.text == other.text

    def __invert__(self):
        if self.kind == "roll":
            return Step(step_text("roll", -self.by, None))
        if self.kind not in OTHER_KINDS or is_own_inverse(self.by, self.rest):
            return self
        tail = self.text[len(self.kind):]
        return Step(f"{OTHER_KINDS[self.kind]}{tail}")

    def done(self, bits):
        """The tuple of the bits of the result for a word of bits."""
        word = word_of_bits(bits)
        if self.kind in MOVES:
            return moved(self.kind, self.by, word)
        if self.kind in FLIPS:
            return flipped(self.kind, self.rest, word)
        mixed = mixed_bits(self.kind, self.by, word)
        rest = self.rest
        return tuple([mixed[place] if is_chosen(rest, place) else bit for place, bit in enumerate(word)])


def step_parts(text):
    """The attributes kind, by and rest of the step with a text, or None if any value is not the text of a step."""
    if not isinstance(text, str):
        return None
    if text in BARE_KINDS:
        return text, None, None
    kind, _, told = text.partition(" ")
    if kind == "flip" and told in RESTS:
        return kind, None, RESTS[told]
    number, between, pair = told.partition(" at ")
    if number not in NUMBERS:
        return None
    by = NUMBERS[number]
    if between == "":
        return (kind, by, None) if kind in ("roll", "near", "sum") else None
    if kind not in ("near", "sum") or pair not in RESTS:
        return None
    rest = RESTS[pair]
    if kind == "sum" and by % rest[1] != 0:
        return None
    return kind, by, rest


def step_text(kind, by, rest):
    """The text of a step that has a number C."""
    if rest is None:
        return f"{kind} {by}"
    at, of = rest
    return f"{kind} {by} at {at} of {of}"


def is_own_inverse(by, rest):
    """Whether `near` with these attributes adds only bits that it does not change."""
    return rest is not None and by % rest[1] != 0


def place_from(kind, by, size, place):
    """The place from which a move takes the bit at a place of the result."""
    if kind == "turn":
        return size - 1 - place
    if kind == "roll":
        return (place - by) % size
    evens = (size + 1) // 2
    if kind == "deal":
        return 2 * place if place < evens else 2 * (place - evens) + 1
    if kind == "undeal":
        return place // 2 if place % 2 == 0 else evens + place // 2
    if place % 2 == 1:
        return place - 1
    # The last place of an odd size has no neighbour to swap with.
    return min(place + 1, size - 1)


def is_flipped(kind, rest, size, place):
    """Whether a flip adds 1 to the bit at a place."""
    if kind == "flip first":
        return place == 0
    if kind == "flip last":
        return place == size - 1
    return is_chosen(rest, place)


def is_chosen(rest, place):
    """Whether a place is one of the places R of M; without the pair all are."""
    return rest is None or place % rest[1] == rest[0]


def moved(kind, by, word):
    """The result of a move."""
    size = len(word)
    return tuple([word[place_from(kind, by, size, place)] for place in range(size)])


def flipped(kind, rest, word):
    """The result of a flip."""
    size = len(word)
    return tuple([bit ^ 1 if is_flipped(kind, rest, size, place) else bit for place, bit in enumerate(word)])


def mixed_bits(kind, by, word):
    """The list of what a step that is no move and no flip makes of each bit, as if all places were chosen."""
    if kind == "near":
        return near_bits(word, by)
    if kind == "sum":
        return sum_bits(word, by)
    first = word[0]
    if kind == "spread":
        return [first, *[bit ^ first for bit in word[1:]]]
    return [sum(word) % 2, *word[1:]]


def near_bits(word, by):
    """For each place the sum of its bit and of the bit that is `by` places further."""
    size = len(word)
    return [bit ^ word[place + by] if 0 <= place + by < size else bit for place, bit in enumerate(word)]


def sum_bits(word, by):
    """For each place the sum of its bit and of all bits that are a multiple of `by` places further."""
    size = len(word)
    sums = list(word)
    places = list(range(size))
    if by > 0:
        places = places[::-1]
    # In this order the sum that a place adds to its own bit is always ready.
    for place in places:
        if 0 <= place + by < size:
            sums[place] = sums[place] ^ sums[place + by]
    return sums


def check_by(by):
    if not is_number(by, -3, 3) or by == 0:
        raise BadNumber(by)


def check_of(of, low):
    if not is_number(of, low, 4):
        raise BadNumber(of)


def check_at(at, of):
    if not is_number(at, 0, of - 1):
        raise BadNumber(at)


def rest_or_none(at, of):
    """The pair (R, M) of a step, which is not told if all places are meant."""
    return None if of == 1 else (at, of)


def roll_step(by):
    """The step `roll C` with the number by."""
    check_by(by)
    return Step(step_text("roll", by, None))


def near_step(by, *, at=0, of=1):
    """The step `near C at R of M` with the numbers by, at and of, or `near C` if of is 1."""
    check_by(by)
    check_of(of, 1)
    check_at(at, of)
    return Step(step_text("near", by, rest_or_none(at, of)))


def sum_step(by, *, at=0, of=1):
    """The step `sum C at R of M` with the numbers by, at and of, or `sum C` if of is 1."""
    check_by(by)
    check_of(of, 1)
    if by % of != 0:
        raise BadNumber(of)
    check_at(at, of)
    return Step(step_text("sum", by, rest_or_none(at, of)))


def flip_step(*, at, of):
    """The step `flip R of M` with the numbers at and of."""
    check_of(of, 2)
    check_at(at, of)
    return Step(f"flip {at} of {of}")


def all_steps():
    """The tuple of all steps, in ascending order of their texts."""
    texts = list(BARE_KINDS)
    texts.extend([f"flip {pair}" for pair in RESTS])
    for kind in ("roll", "near", "sum"):
        for number in NUMBERS:
            texts.append(f"{kind} {number}")
            texts.extend([f"{kind} {number} at {pair}" for pair in RESTS])
    return tuple([Step(text) for text in sorted(texts) if step_parts(text) is not None])

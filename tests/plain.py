"""A second reading of the document, as plain as can be, that the tests compare the program with."""

from functools import lru_cache
from itertools import product
from random import Random

BY = (-3, -2, -1, 1, 2, 3)
PAIRS = [(rest, of) for of in (2, 3, 4) for rest in range(of)]


@lru_cache(None)
def expected_steps():
    """For each text of a step its kind, number C, pair (R, M) and the text of its inverse."""
    steps = {}
    for kind in ("turn", "swap", "gather", "spread", "flip first", "flip last"):
        steps[kind] = (kind, None, None, kind)
    steps["deal"] = ("deal", None, None, "undeal")
    steps["undeal"] = ("undeal", None, None, "deal")
    for at, of in PAIRS:
        text = "flip %d of %d" % (at, of)
        steps[text] = ("flip", None, (at, of), text)
    for by in BY:
        steps["roll %d" % by] = ("roll", by, None, "roll %d" % -by)
        steps["near %d" % by] = ("near", by, None, "sum %d" % by)
        steps["sum %d" % by] = ("sum", by, None, "near %d" % by)
        for at, of in PAIRS:
            near = "near %d at %d of %d" % (by, at, of)
            total = "sum %d at %d of %d" % (by, at, of)
            if by % of == 0:
                steps[near] = ("near", by, (at, of), total)
                steps[total] = ("sum", by, (at, of), near)
            else:
                steps[near] = ("near", by, (at, of), near)
    return steps


def dealt(word):
    return [bit for place, bit in enumerate(word) if place % 2 == 0] + [
        bit for place, bit in enumerate(word) if place % 2 == 1]


def undealt(word):
    places = dealt(range(len(word)))
    result = [None] * len(word)
    for bit, place in zip(word, places):
        result[place] = bit
    return result


def swapped(word):
    result = list(word)
    for place in range(0, len(word) - 1, 2):
        result[place], result[place + 1] = word[place + 1], word[place]
    return result


def told(word, place, kind, by):
    """The bit that `near C` or `sum C` puts at a place."""
    if kind == "near":
        places = [place, place + by]
    else:
        places = [place + by * times for times in range(len(word))]
    return sum(word[j] for j in places if 0 <= j < len(word)) % 2


def expected_result(kind, by, pair, word):
    """The result of a step, bit by bit."""
    size = len(word)
    whole = {
        "turn": lambda: word[::-1],
        "roll": lambda: [word[(i - by) % size] for i in range(size)],
        "deal": lambda: dealt(word),
        "undeal": lambda: undealt(word),
        "swap": lambda: swapped(word),
        "gather": lambda: [sum(word) % 2] + list(word[1:]),
        "spread": lambda: [word[0]] + [(bit + word[0]) % 2 for bit in word[1:]],
        "flip first": lambda: [1 - word[0]] + list(word[1:]),
        "flip last": lambda: list(word[:-1]) + [1 - word[-1]],
    }
    if kind in whole:
        return tuple(whole[kind]())
    at, of = pair or (0, 1)
    result = list(word)
    for place in range(size):
        if place % of == at:
            result[place] = 1 - word[place] if kind == "flip" else told(word, place, kind, by)
    return tuple(result)


def words_upto(most):
    """All words of bits of the sizes from 1 to most."""
    return [word for size in range(1, most + 1) for word in product((0, 1), repeat=size)]


def scattered(size, seed):
    """A word of bits without a pattern, the same each time."""
    bits = []
    state = seed
    for _ in range(size):
        state = (state * 1103515245 + 12345) % 2 ** 31
        bits.append(state >> 16 & 1)
    return tuple(bits)


class Odd:
    """A value of no kind that the document knows."""

    def __repr__(self):
        raise RuntimeError("this value cannot be shown")

    __str__ = __repr__


def odd_values():
    """Values that are neither texts nor integers, steps nor programs."""
    return [None, True, False, 1.0, 0.0, 2.5, float("nan"), 1j, b"turn", b"", [], [0], ["turn"], (), (1,), ("turn",),
            {}, {"turn": 1}, set(), {1}, range(3), slice(0, 1), object(), Odd(), Odd, len, ValueError("turn"), ...]


def told_places(kind, by, pair, size):
    """For each place of a result the places whose bits are added up there, and whether 1 is added."""
    places = range(size)
    stays = [([i], 0) for i in places]
    whole = {
        "turn": lambda: [([j], 0) for j in places[::-1]],
        "roll": lambda: [([(i - by) % size], 0) for i in places],
        "deal": lambda: [([j], 0) for j in dealt(places)],
        "undeal": lambda: [([j], 0) for j in undealt(places)],
        "swap": lambda: [([j], 0) for j in swapped(places)],
        "gather": lambda: [(places, 0)] + stays[1:],
        "spread": lambda: stays[:1] + [([0, i], 0) for i in places[1:]],
        "flip first": lambda: [([0], 1)] + stays[1:],
        "flip last": lambda: stays[:-1] + [([size - 1], 1)],
    }
    if kind in whole:
        return whole[kind]()
    at, of = pair or (0, 1)
    found = []
    for i in places:
        if i % of != at:
            found.append(([i], 0))
        elif kind == "flip":
            found.append(([i], 1))
        elif kind == "near":
            found.append(([j for j in (i, i + by) if 0 <= j < size], 0))
        else:
            found.append((range(i, size if by > 0 else -1, by), 0))
    return found


@lru_cache(None)
def places_of_step(text, size):
    return told_places(*expected_steps()[text][:3], size)


def plain_table(text, size):
    """For each place behind a program the number whose bits 1 are the places that it hangs on, and its flip."""
    rows = [(1 << i, 0) for i in range(size)]
    for part in text.split(" then ") if text else []:
        told = places_of_step(part, size)
        rows = [(combined([rows[j][0] for j in places]), (flip + sum(rows[j][1] for j in places)) % 2)
                for places, flip in told]
    return rows


def combined(masks):
    total = 0
    for mask in masks:
        total ^= mask
    return total


def few_places(kind, by, pair, size, i):
    """As told_places for one place of a size, however large, for the steps that hang on few places."""
    evens = (size + 1) // 2
    if kind == "turn":
        return [size - 1 - i], 0
    if kind == "roll":
        return [(i - by) % size], 0
    if kind == "deal":
        return [2 * i if i < evens else 2 * (i - evens) + 1], 0
    if kind == "undeal":
        return [evens + i // 2 if i % 2 else i // 2], 0
    if kind == "swap":
        return [i if i == size - 1 and i % 2 == 0 else i + 1 if i % 2 == 0 else i - 1], 0
    if kind == "spread":
        return [i] if i == 0 else [0, i], 0
    if kind == "flip first":
        return [i], int(i == 0)
    if kind == "flip last":
        return [i], int(i == size - 1)
    at, of = pair or (0, 1)
    if kind == "flip":
        return [i], int(i % of == at)
    if kind == "near":
        return [j for j in (i, i + by) if j == i or i % of == at and 0 <= j < size], 0
    raise ValueError(kind)


def hung_on(text, size, i):
    """The places on which a bit hangs, and its flip, followed back through steps that hang on few places."""
    places, flip = {i}, 0
    for part in (text.split(" then ") if text else [])[::-1]:
        found = set()
        for place in places:
            sources, added = few_places(*expected_steps()[part][:3], size, place)
            found ^= set(sources)
            flip ^= added
        places = found
    return tuple(sorted(places)), flip


def program_texts(seed, many, most, kinds=None):
    """Texts of programs without a pattern, the same each time, with at most most steps of some kinds."""
    random = Random(seed)
    texts = [text for text, parts in expected_steps().items() if kinds is None or parts[0] in kinds]
    found = []
    while len(found) < many:
        parts = [random.choice(texts) for _ in range(random.randint(1, most))]
        if len([part for part in parts if part in ("deal", "undeal")]) <= 2:
            found.append(" then ".join(parts))
    return found


class PlainTable:
    """T and F of a program, by doing it with all bits at once."""

    def __init__(self, text):
        self.text = text
        self.sizes = {}

    def rows(self, k):
        if k not in self.sizes:
            self.sizes[k] = plain_table(self.text, k)
        return self.sizes[k]

    def at(self, i, j, k):
        return self.rows(k)[i][0] >> j & 1 if i < k else 0

    def flip(self, i, k):
        return self.rows(k)[i][1] if i < k else 0

    def value(self, path):
        """The value of a path: of T if its letters have three digits, of F if they have two."""
        numbers = numbers_of(path)
        return self.at(*numbers) if len(numbers) == 3 else self.flip(*numbers)


def numbers_of(path):
    """The numbers that a path tells, which is not the empty text."""
    return [sum(int(digit) << place for place, digit in enumerate(digits)) for digits in zip(*path.split(" "))]


def letters_of(digits):
    return ["".join(letter) for letter in product("01", repeat=digits)]


def paths_upto(digits, most):
    """All paths of letters with so many digits that have at most most letters, in their order."""
    letters = letters_of(digits)
    return [" ".join(path) for many in range(most + 1) for path in product(letters, repeat=many)]


def put(path, more):
    """The path that has the letters of a path and then those of another one."""
    return " ".join(part for part in (path, more) if part)


class Rows:
    """For each path the values of all paths that begin with it and have few letters more, as one number."""

    def __init__(self, text, digits, most):
        self.table = PlainTable(text)
        self.digits = digits
        self.ends = [(numbers_of(path) if path else [0] * digits) for path in paths_upto(digits, most)]

    def __call__(self, path):
        begun = numbers_of(path) if path else [0] * self.digits
        many = len(path.split(" ")) if path else 0
        ask = self.table.at if self.digits == 3 else self.table.flip
        total = 0
        for place, end in enumerate(self.ends):
            total |= ask(*[low + (high << many) for low, high in zip(begun, end)]) << place
        return total


class Sums:
    """Numbers that are no sums, bit by bit, of others among them."""

    def __init__(self):
        self.known = {}

    def add(self, number):
        """Whether a number is no sum of those that were added before."""
        while number:
            length = number.bit_length()
            if length not in self.known:
                self.known[length] = number
                return True
            number ^= self.known[length]
        return False


def plain_states(text, most):
    """How many paths have rows of values that are no sums of those of earlier ones, with at most most letters more.

    Only what begins with such a path is looked at, as the beginning of a new path is new.
    """
    rows = Rows(text, 3, most)
    sums = Sums()
    found = [""] if sums.add(rows("")) else []
    for path in found:
        found += [longer for longer in [put(path, letter) for letter in letters_of(3)] if sums.add(rows(longer))]
    return len(found)


def are_alike(one, other, k):
    """Whether two programs, told by texts of any number of steps, make the same word of each word of size k."""
    return plain_table(one, k) == plain_table(other, k)


def plain_first_apart(one, other, upto):
    """The least size up to a bound, and the places, at which two programs are not alike; None if there is none."""
    for k in range(1, upto + 1):
        for i, (first, second) in enumerate(zip(plain_table(one, k), plain_table(other, k))):
            if first[1] != second[1]:
                return k, i, None
            if first[0] != second[0]:
                mask = first[0] ^ second[0]
                return k, i, (mask & -mask).bit_length() - 1
    return None


def chosen_places(choice, size):
    """The places of a choice."""
    if choice == "all":
        return list(range(size))
    if choice in ("first", "last"):
        return [0 if choice == "first" else size - 1]
    at, of = [int(part) for part in choice.split(" of ")]
    return [place for place in range(size) if place % of == at]


CHOICES = ["all", "first", "last", *["%d of %d" % pair for pair in PAIRS]]

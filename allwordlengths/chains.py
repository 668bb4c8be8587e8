"""The machines of steps that are done one after another."""

from allwordlengths.bits import bits_of, full
from allwordlengths.machines import ends_mask, least_machine, letters_of, start_mask
from allwordlengths.rules import machine_of_rules
from allwordlengths.steprules import STAYS, flip_rules, table_rules
from allwordlengths.vectors import parity, summed

MOST_STATES = 60


class Chain:
    """A step put behind others: the sums of own(i, m, k) * ahead(m, .., k), over all m, and of more(i, .., k).

    The three are machines; own is about i, m and k, the other two about k and, ahead of it, the same other numbers. A
    vector has a bit for each pair of a state of own and a state of ahead, and above these one for each state of more.
    """

    def __init__(self, own, ahead, more):
        self.own = own
        self.ahead = ahead
        self.more = more
        self.wide = ahead.states
        self.high = own.states * ahead.states
        self.start = (start_mask(own) * start_mask(ahead)) | (start_mask(more) << self.high)
        pairs = spread(ends_mask(own), ahead.states) * ends_mask(ahead)
        self.asked = pairs | (ends_mask(more) << self.high)
        # The product of such a spread sum of states of own and of a sum of states of ahead has the pairs of both.
        self.spreads = {letter: [spread(mask, ahead.states) for mask in own.images[letter]] for letter in own.letters}
        self.plan = [(letter, outer_letters(letter, ahead.letters)) for letter in ahead.letters]

    def follow(self, vector):
        """What comes behind a vector, for each letter."""
        above = vector >> self.high
        found = [summed(self.more.images[letter], above) << self.high for letter in self.more.letters]
        for state in range(self.own.states):
            block = (vector >> (self.wide * state)) & full(self.wide)
            if block > 0:
                for inner, outer in self.plan:
                    part = summed(self.ahead.images[inner], block)
                    for place, letter in outer:
                        found[place] = found[place] ^ (part * self.spreads[letter][state])
        return found

    def worth(self, vector):
        """The value of a vector."""
        return parity(vector & self.asked)


def spread(mask, wide):
    """The bits of a mask, each `wide` places away from the next."""
    return sum([1 << (wide * place) for place in bits_of(mask)])


def outer_letters(inner, letters):
    """For each digit of i the place of the letter of i and of what follows m in inner, and the letter of i, m and k."""
    digit_m, tail, digit_k = inner[0], inner[1:], inner[-1]
    return [(letters.index(f"{digit}{tail}"), f"{digit}{digit_m}{digit_k}") for digit in "01"]


def put_behind(own, ahead, more, most):
    """The least machine of a chain; it is refused if it has more than most states."""
    chain = Chain(own, ahead, more)
    return least_machine(ahead.letters, chain.start, chain.follow, chain.worth, most)


def machines_of(steps):
    """The machine of T and that of F for a list or tuple of steps; refused if one of T has too many states."""
    letters = letters_of(3)
    flip_letters = letters_of(2)
    nothing = machine_of_rules(letters, [])
    table = machine_of_rules(letters, [STAYS])
    flips = machine_of_rules(flip_letters, [])
    for step in steps:
        own = machine_of_rules(letters, table_rules(step))
        table = put_behind(own, table, nothing, MOST_STATES)
        # No bound is told for the machine of F; it has no more states than a chain has pairs and states of more.
        own_flips = machine_of_rules(flip_letters, flip_rules(step))
        flips = put_behind(own, flips, own_flips, own.states * flips.states + own_flips.states)
    return table, flips

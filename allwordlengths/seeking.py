"""The numbers for which a machine tells 1 if the other numbers are known, found by digits from the highest one on."""

from allwordlengths.errors import TooMany
from allwordlengths.machines import ends_mask, start_mask
from allwordlengths.vectors import parity, spanned, summed


class Search:
    """All numbers below a power of 2, each with the value that a machine tells for it.

    forks has, from the lowest digit on, a pair of letters: with the digit 0 and with the digit 1 of the number. A form
    is a mask of new paths: it asks for the sum of their values once the digits above a place have been read.
    """

    def __init__(self, machine, forks):
        self.forks = forks
        self.top = ends_mask(machine)
        self.machine = machine
        self.spans = [spanned([start_mask(machine)])]
        for fork in forks:
            found = [summed(machine.images[letter], vector) for letter in fork for vector in self.spans[-1]]
            self.spans.append(spanned(found))

    def with_digit(self, form, place, digit):
        """The form that asks the same with a digit at a place known, too."""
        return summed(self.machine.columns[self.forks[place][digit]], form)

    def can_be(self, form, place):
        """Whether the digits below a place can be such that a form has the value 1."""
        return any([parity(vector & form) == 1 for vector in self.spans[place]])

    def least_from(self, low):
        """The least number that is not below low and has the value 1, or None."""
        if low.bit_length() > len(self.forks):
            return None
        form = self.top
        least = None
        for place in reversed(range(len(self.forks))):
            digit = (low >> place) & 1
            if digit == 0:
                greater = self.with_digit(form, place, 1)
                if self.can_be(greater, place):
                    # A number that is equal to low down to a lower place is less, so the last one found counts.
                    least = ((low >> place) + 1, greater, place)
            form = self.with_digit(form, place, digit)
        if self.can_be(form, 0):
            return low
        return None if least is None else self.least_below(least)

    def least_below(self, known):
        """The least number with the value 1 whose digits from a place on are known."""
        value, form, many = known
        for place in reversed(range(many)):
            with_zero = self.with_digit(form, place, 0)
            digit = 0 if self.can_be(with_zero, place) else 1
            form = with_zero if digit == 0 else self.with_digit(form, place, 1)
            value = 2 * value + digit
        return value

    def listed(self, most):
        """The list of the numbers with the value 1, ascending; refused if there are more than most."""
        known = [(0, self.top)] if self.can_be(self.top, len(self.forks)) else []
        for place in reversed(range(len(self.forks))):
            longer = [(2 * value + digit, self.with_digit(form, place, digit))
                      for value, form in known for digit in (0, 1)]
            known = [(value, form) for value, form in longer if self.can_be(form, place)]
            # Each of these is the beginning of a number that is found.
            if len(known) > most:
                raise TooMany(most)
        return [value for value, _ in known]


def least_first_place(machine, k):
    """The least place, told by the first digits of the letters, for which a machine tells 1 with some others; or None.

    k is the size, whose digits are the last ones of the letters.
    """
    many = k.bit_length()
    forks = [forked(machine.letters, str((k >> place) & 1)) for place in range(many)]
    spans = [spanned([start_mask(machine)])]
    for zero, one in forks:
        spans.append(mapped(machine.images, [*zero, *one], spans[-1]))
    # The forms ask for the values with all digits of the other places above a place.
    forms = (ends_mask(machine),)
    if not are_met(spans[many], forms):
        return None
    value = 0
    for place in reversed(range(many)):
        zero, one = forks[place]
        likely = mapped(machine.columns, zero, forms)
        digit = 0 if are_met(spans[place], likely) else 1
        forms = likely if digit == 0 else mapped(machine.columns, one, forms)
        value = 2 * value + digit
    return value


def forked(letters, last):
    """The letters with a last digit that have the first digit 0, and those that have the first digit 1."""
    chosen = [letter for letter in letters if letter[-1] == last]
    return [letter for letter in chosen if letter[0] == "0"], [letter for letter in chosen if letter[0] == "1"]


def mapped(rows, letters, vectors):
    """The vectors that tell all sums of what some vectors become by some letters, for which rows tell this."""
    return spanned([summed(rows[letter], vector) for letter in letters for vector in vectors])


def are_met(vectors, forms):
    """Whether one of some vectors has the value 1 for one of some forms."""
    return any([parity(vector & form) == 1 for vector in vectors for form in forms])

"""Programs: a few steps, done one after another."""

from allwordlengths.checks import is_number, word_of_bits
from allwordlengths.errors import BadNumber, BadStep, BadText, TooMany
from allwordlengths.steps import FLIPS, MOVES, Step, step_parts

MOST_STEPS = 5
MOST_DEALS = 2


class Program:
    """A program, told by its text."""

    def __init__(self, text):
        if not isinstance(text, str):
            raise BadText(text)
        parts = [] if text == "" else text.split(" then ")
        steps = []
        for index, part in enumerate(parts):
            if step_parts(part) is None:
                raise BadStep(index)
            steps.append(Step(part))
        check_bounds(steps)
        self.text = text
        self.steps = tuple(steps)

    @classmethod
    def of(cls, steps):
        """The program with the steps of a list or tuple."""
        for index, step in enumerate(steps):
            if not isinstance(step, Step):
                raise BadStep(index)
        return joined(steps)

    @property
    def rearranges(self):
        """Whether each step is a move or a flip."""
        return all([step.kind in MOVES or step.kind in FLIPS for step in self.steps])

    def __eq__(self, other):
        return isinstance(other, Program) and self.text == other.text

    def __len__(self):
        return len(self.steps)

    def __getitem__(self, at):
        if not is_number(at, 0, len(self.steps) - 1):
            raise BadNumber(at)
        return self.steps[at]

    def __iter__(self):
        return iter(self.steps)

    def __add__(self, other):
        if isinstance(other, Program):
            return joined([*self.steps, *other.steps])
        if isinstance(other, Step):
            return joined([*self.steps, other])
        return NotImplemented

    def __radd__(self, other):
        if isinstance(other, Step):
            return joined([other, *self.steps])
        return NotImplemented

    def __invert__(self):
        return joined([~step for step in self.steps[::-1]])

    def __sub__(self, other):
        if isinstance(other, Program):
            return self + ~other
        return NotImplemented

    def __mul__(self, other):
        return repeated(self, other)

    def __rmul__(self, other):
        return repeated(self, other)

    def done(self, bits):
        """The tuple of the bits of the result for a word of bits."""
        word = word_of_bits(bits)
        for step in self.steps:
            word = step.done(word)
        return word

    def trace(self, bits):
        """The tuple of the given word of bits and of the results after each step."""
        words = [word_of_bits(bits)]
        for step in self.steps:
            words.append(step.done(words[-1]))
        return tuple(words)

    def beginning(self, many):
        """The program of the first many steps."""
        if not is_number(many, 0, len(self.steps)):
            raise BadNumber(many)
        return joined(self.steps[:many])

    def reduced(self):
        """The program that is left when neighbouring steps that take each other back are taken out."""
        left = []
        for step in self.steps:
            # The inverse of an inverse is the step itself, so one direction is enough.
            if left and left[-1] == ~step:
                left.pop()
            else:
                left.append(step)
        return joined(left)


def check_bounds(steps):
    """Refuse steps that are too many for a program."""
    if len(steps) > MOST_STEPS:
        raise TooMany(MOST_STEPS)
    deals = [step for step in steps if step.kind in ("deal", "undeal")]
    if len(deals) > MOST_DEALS:
        raise TooMany(MOST_DEALS)


def joined(steps):
    """The program with these Steps."""
    return Program(" then ".join([step.text for step in steps]))


def repeated(program, many):
    """The program many times one after another, or its inverse -many times."""
    if not is_number(many, -MOST_STEPS, MOST_STEPS):
        raise BadNumber(many)
    once = ~program if many < 0 else program
    return joined(list(once.steps) * abs(many))

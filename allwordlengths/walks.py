"""Words of bits of any size behind a program, and sums of their bits taken back through it."""

from allwordlengths.checks import check_number, check_size
from allwordlengths.errors import TooLarge
from allwordlengths.marks import Marks, marks_of
from allwordlengths.pieces import deepened, width
from allwordlengths.steps import FLIPS
from allwordlengths.working import drawn_back, flips_of, worked

MOST_DEPTH = 5


def behind(program, marks):
    """The Marks of the result of a program for the word of bits for which marks stands."""
    return far_trace(program, marks)[-1]


def far_trace(program, marks):
    """The tuple of marks and of the Marks behind the first step, the first two, and so on."""
    check_depth(marks, program)
    found = [marks]
    for step in program.steps:
        found.append(behind_step(step, found[-1]))
    return tuple(found)


class Parity:
    """A rule for words of bits: the sum of the bits at the marked places and of plus."""

    def __init__(self, marks, *, plus=0):
        check_number(plus, 0, 1)
        self.marks = marks
        self.plus = plus

    def __eq__(self, other):
        return isinstance(other, Parity) and self.marks == other.marks and self.plus == other.plus

    def __add__(self, other):
        if isinstance(other, Parity):
            return Parity(self.marks ^ other.marks, plus=self.plus ^ other.plus)
        return NotImplemented

    def value(self, word):
        """The value for the word of bits for which the Marks word stands."""
        return ((self.marks & word).many() % 2) ^ self.plus

    def back(self, program):
        """The parity whose value ahead of a program is the value of this one behind it."""
        check_depth(self.marks, program)
        found = self
        for step in program.steps[::-1]:
            found = back_step(step, found)
        return found

    def is_kept(self, program):
        """Whether the value is the same ahead of a program and behind it, for each word of bits."""
        return self.back(program) == self


def bit_at(k, i):
    """The parity of the bit at the place i alone, for words of k bits."""
    check_size(k)
    check_number(i, 0, k - 1)
    return Parity(Marks(k, ((i, i, 1),)))


def hangs_on(program, k, i, most):
    """The places on which the bit at the place i of the result hangs for words of k bits, and its flip."""
    parity = bit_at(k, i).back(program)
    return parity.marks.listed(most), parity.plus


def check_depth(marks, program):
    """Refuse a program behind which the depth of marks would be too great."""
    if marks.depth + len(program) > MOST_DEPTH:
        raise TooLarge(MOST_DEPTH)


def behind_step(step, marks):
    """The Marks of the result of a step."""
    depth = marks.depth + 1
    pieces = deepened(marks.pieces, marks.depth, depth)
    return marks_of(marks.size, depth, worked(step, marks.size, width(depth), pieces))


def back_step(step, parity):
    """The parity whose value ahead of a step is the value of a parity behind it."""
    marks = parity.marks
    depth = marks.depth + 1
    wide = width(depth)
    pieces = deepened(marks.pieces, marks.depth, depth)
    ahead = marks_of(marks.size, depth, drawn_back(step, marks.size, wide, pieces))
    if step.kind not in FLIPS:
        return Parity(ahead, plus=parity.plus)
    flips = marks_of(marks.size, depth, flips_of(step, marks.size, wide))
    return Parity(ahead, plus=Parity(ahead, plus=parity.plus).value(flips))

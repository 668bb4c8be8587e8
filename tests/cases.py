"""What several test files need: how refusals are checked, and values that are no numbers."""

import unittest

from allwordlengths.errors import TooLarge
from allwordlengths.programs import Program
from allwordlengths.tables import Table
from plain import Odd, odd_values

K = 10 ** 30

# Values that are no integers, among them some that are equal to integers.
NO_INTEGERS = [*odd_values(), "1", "", "0", Odd()]


class Case(unittest.TestCase):
    def refused(self, error, field, value, call, *args, **more):
        """A call raises just this error, with this value in its field."""
        with self.assertRaises(error) as caught:
            call(*args, **more)
        self.assertIs(caught.exception.__class__, error)
        found = getattr(caught.exception, field)
        if type(value) in (int, str):
            self.assertEqual((type(found), found), (type(value), value))
        else:
            self.assertIs(found, value)

def is_refused(text):
    """Whether the table of a program is refused."""
    try:
        Table(Program(text))
    except TooLarge:
        return True
    return False


# Programs whose tables are refused; the first one as soon as its first step is put behind.
LARGE = ("deal then sum 3 at 0 of 3", "sum -3 at 2 of 3 then sum 3 at 2 of 3", "turn then deal then deal then near 1 then sum 3")

# Pairs of texts of programs that are alike at all sizes.
REWRITTEN = (
    ("", "turn then turn"), ("near 2 then sum 2", ""), ("near 1 then near 1", "near 2"), ("deal then undeal", ""),
    ("near 1 then near 1 then near 1 then near 1", "near 2 then near 2"), ("turn then sum 3 then turn", "sum -3"),
    ("roll 2 then roll -3", "roll -1"), ("turn then roll 2 then turn", "roll -2"), ("swap then swap", "gather then gather"),
    ("flip 0 of 2 then flip 1 of 2", "flip 1 of 2 then flip 0 of 2"), ("flip 0 of 4 then flip 2 of 4", "flip 0 of 2"),
    ("sum 2 at 0 of 2 then sum 2 at 1 of 2", "sum 2"), ("turn then flip last", "flip first then turn"),
    ("spread then spread", "roll 3 then roll -3"), ("near 3 then sum 1", "sum 1 then near 3"),
    ("near 1 at 1 of 2 then near 1 at 1 of 2", ""), ("roll 1 then deal then undeal", "deal then undeal then roll 1"),
)


def far_sizes(random, many):
    """Sizes without a pattern up to 10 ** 30, and some that stand at its edge."""
    return [K, K - 1, 2 ** 99, 2 ** 97 + 1, *[random.randint(1, 10 ** random.randint(1, 30)) for _ in range(many)]]

"""What several test files need: how refusals are checked, and values that are no numbers."""

import unittest

from plain import Odd, odd_values

K = 10 ** 30

# Values that are no integers, among them some that are equal to integers.
NO_INTEGERS = [*odd_values(), "1", "", "0", Odd()]


class Case(unittest.TestCase):
    def refused(self, error, field, value, call, *args, **more):
        """A call raises just this error, with this value in its field."""
        with self.assertRaises(error) as caught:
            call(*args, **more)
        self.assertIs(caught.exception.__class__, error)
        found = getattr(caught.exception, field)
        if type(value) in (int, str):
            self.assertEqual((type(found), found), (type(value), value))
        else:
            self.assertIs(found, value)

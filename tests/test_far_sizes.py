"""Points 24 to 31: questions about sets of sizes with far bounds take a moment, and are answered as before."""

import time
import unittest

from allwordlengths.errors import TooMany
from allwordlengths.sizes import sizes_from, sizes_rest, sizes_upto
from cases import K
from far_calls import ANSWERS, CALLS, answer_of, counter

# A call takes about a millisecond or less, all of them together take about 20.
SECONDS_FOR_ONE = 0.01
SECONDS_FOR_ALL = 0.12


def seconds(call):
    """How many seconds of work a call takes, the quickest time of some."""
    found = []
    for _ in range(5):
        begun = time.process_time()
        call()
        found.append(time.process_time() - begun)
    return min(found)


class FarSizesTest(unittest.TestCase):
    def test_answers(self):
        self.assertEqual(list(ANSWERS), list(CALLS))
        for name, answer in ANSWERS.items():
            self.assertEqual(answer_of(name), answer, name)

    def test_each_in_a_moment(self):
        for name in CALLS:
            self.assertLess(seconds(lambda: answer_of(name)), SECONDS_FOR_ONE, name)

    def test_all_in_a_moment(self):
        self.assertLess(seconds(lambda: [answer_of(name) for name in CALLS]), SECONDS_FOR_ALL)

    def test_questions_of_one_set_in_a_moment(self):
        for sizes in (sizes_upto(K), sizes_from(K), counter(199), sizes_from(10 ** 20) & sizes_rest(2, 3)):
            for call in (sizes.least, sizes.greatest, sizes.from_on, sizes.is_none, sizes.is_all, sizes.is_endless,
                         lambda: sizes.next_from(K - 7), lambda: sizes.last_upto(K), lambda: sizes.count_upto(K),
                         lambda: list(sizes.each(K - 1000, K)), lambda: sizes.within(sizes), lambda: K in sizes,
                         lambda: sizes == sizes):
                self.assertLess(seconds(call), SECONDS_FOR_ONE)

    def test_very_many_pairs_of_classes(self):
        """What is refused at last takes no long time either."""
        one, other = counter(89), counter(97)
        for call in (one.__or__, one.__and__, one.__xor__, one.__sub__):
            begun = time.process_time()
            self.assertRaises(TooMany, call, other)
            self.assertLess(time.process_time() - begun, 1)
        self.assertEqual(counter(12) & counter(16), counter(48))


if __name__ == "__main__":
    unittest.main()

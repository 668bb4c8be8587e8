import unittest
from itertools import product
from math import lcm

from allwordlengths.errors import BadNumber, BadSize, NotMoves, TooMany
from allwordlengths.places import comes_from, flips_on_way, goes_to, place_after, round_trip, times_home
from allwordlengths.programs import Program
from cases import NO_INTEGERS, Case, K
from plain import expected_steps, few_places, plain_table, program_texts

EXPECTED = expected_steps()
GOING = ("turn", "roll", "deal", "undeal", "swap", "flip", "flip first", "flip last")
TEXTS = ["", *[text for text, parts in EXPECTED.items() if parts[0] in GOING], *program_texts(1, 60, 5, GOING)]
LARGE = (25, 1000, 2 ** 40, 2 ** 97 + 1, K - 1, K)


def places_of(k):
    """Some places of a large size."""
    middle = (k + 1) // 2
    return sorted({place for place in (0, 1, 2, 3, 7, k // 3, middle - 2, middle - 1, middle, middle + 1, 2 * k // 3,
                                       k - 4, k - 3, k - 2, k - 1) if 0 <= place < k})


def followed_back(text, k, i):
    """The place from which the bit at a place comes, and how often, modulo 2, it is flipped."""
    flips = 0
    for part in (text.split(" then ") if text else [])[::-1]:
        (i,), flip = few_places(*EXPECTED[part][:3], k, i)
        flips ^= flip
    return i, flips


class WayTest(Case):
    """Points 8 and 9: where bits come from and go to, and which flips they meet."""

    def test_small_sizes(self):
        for text in TEXTS:
            program = Program(text)
            for k in range(1, 25):
                for i, (mask, flip) in enumerate(plain_table(text, k)):
                    j = mask.bit_length() - 1
                    self.assertEqual(mask, 1 << j)
                    self.assertEqual(comes_from(program, k, i), j, (text, k))
                    self.assertEqual(goes_to(program, k, j), i, (text, k))
                    self.assertEqual(flips_on_way(program, k, j), flip, (text, k))

    def test_against_done(self):
        for text in TEXTS:
            program = Program(text)
            for k in (1, 2, 3, 7, 8, 24):
                nothing = program.done((0,) * k)
                for j in range(k):
                    result = program.done([int(place == j) for place in range(k)])
                    changed = [i for i in range(k) if result[i] != nothing[i]]
                    self.assertEqual(changed, [goes_to(program, k, j)])
                    self.assertEqual(nothing[changed[0]], flips_on_way(program, k, j))

    def test_large_sizes(self):
        for text in TEXTS:
            program = Program(text)
            for k in LARGE:
                for i in places_of(k):
                    j, flips = followed_back(text, k, i)
                    self.assertEqual(comes_from(program, k, i), j, (text, k, i))
                    self.assertEqual(goes_to(program, k, j), i, (text, k, i))
                    self.assertEqual(flips_on_way(program, k, j), flips, (text, k, i))

    def test_they_take_each_other_back(self):
        for text in TEXTS:
            program = Program(text)
            for k in LARGE:
                for j in places_of(k):
                    i = goes_to(program, k, j)
                    self.assertTrue(0 <= i < k)
                    self.assertEqual(comes_from(program, k, i), j)
                    self.assertEqual(goes_to(~program, k, i), j)
                    self.assertEqual(comes_from(~program, k, j), i)
                    self.assertEqual(flips_on_way(~program, k, i), flips_on_way(program, k, j))

    def test_examples(self):
        self.assertEqual(goes_to(Program("deal"), K, 7), 5 * 10 ** 29 + 3)
        self.assertEqual(comes_from(Program("roll -3"), K, K - 1), 2)


class TripTest(Case):
    """Point 8: round trips, doing a program many times, and times_home."""

    def trip(self, text, k, j):
        """The places of a round trip, by the plain table."""
        goes = {mask.bit_length() - 1: i for i, (mask, _) in enumerate(plain_table(text, k))}
        places = [j]
        while goes[places[-1]] != j:
            places.append(goes[places[-1]])
        return tuple(places)

    def test_round_trip(self):
        for text in TEXTS:
            program = Program(text)
            for k in (1, 2, 3, 5, 8, 13, 24):
                for j in range(k):
                    trip = self.trip(text, k, j)
                    for most in {len(trip), len(trip) + 1, 200}:
                        found = round_trip(program, k, j, most)
                        self.assertIs(type(found), tuple)
                        self.assertEqual(found, trip)
                    for most in {1, len(trip) - 1} - {0}:
                        if len(trip) > most:
                            self.refused(TooMany, "most", most, round_trip, program, k, j, most)

    def test_place_after(self):
        for text in TEXTS:
            program = Program(text)
            for k in (1, 2, 5, 8, 13):
                for j in range(k):
                    trip = self.trip(text, k, j)
                    for times in (0, 1, 2, 3, 7, 199, 200, 201, 10 ** 29 + 7, K - 1, K):
                        self.assertEqual(place_after(program, k, j, times), trip[times % len(trip)])
                        self.assertEqual(place_after(program, k, j, -times), trip[-times % len(trip)])

    def test_long_round_trips(self):
        program = Program("roll 1")
        for k, j in ((200, 0), (200, 199), (200, 77)):
            self.assertEqual(round_trip(program, k, j, 200), tuple((j + n) % 200 for n in range(200)))
            self.refused(TooMany, "most", 199, round_trip, program, k, j, 199)
            for times in (201, -201, K, -K, 10 ** 20 + 3):
                self.assertEqual(place_after(program, k, j, times), (j + times) % 200)
        for k in (201, 202, 1000, K):
            for j in (0, 5, k - 1):
                self.refused(TooMany, "most", 200, round_trip, program, k, j, 200)
                self.refused(TooMany, "most", 1, round_trip, program, k, j, 1)
                for times in (201, -201, 1000, -1000, K, -K, k, -k):
                    self.refused(TooMany, "most", 200, place_after, program, k, j, times)
                for times in range(-200, 201):
                    self.assertEqual(place_after(program, k, j, times), (j + times) % k)

    def test_large_sizes(self):
        program = Program("deal then turn then roll 2 then flip 1 of 3")
        for k in (K - 1, K):
            for j in places_of(k):
                place = back = j
                for times in range(1, 60):
                    place = goes_to(program, k, place)
                    back = comes_from(program, k, back)
                    self.assertEqual(place_after(program, k, j, times), place)
                    self.assertEqual(place_after(program, k, j, -times), back)
        for text in ("turn", "swap", "turn then swap", "flip first then turn"):
            for j in places_of(K):
                trip = round_trip(Program(text), K, j, 200)
                for times in (0, 1, 5, K, -K, 10 ** 29 + 1):
                    self.assertEqual(place_after(Program(text), K, j, times), trip[times % len(trip)])

    def plain_times(self, text, k):
        """How often a program is done until it changes nothing, by doing it with the words of one bit 1 and none."""
        program = Program(text)
        given = [tuple(int(place == j) for place in range(k)) for j in range(k + 1)]
        words, times = [program.done(word) for word in given], 1
        while words != given:
            words, times = [program.done(word) for word in words], times + 1
        return times

    def test_times_home_by_doing(self):
        for text in TEXTS:
            for k in (1, 2, 3, 4, 5, 6, 7):
                self.assertEqual(times_home(Program(text), k), self.plain_times(text, k), (text, k))

    def test_times_home_by_round_trips(self):
        for text in TEXTS[:20] + TEXTS[-20:]:
            program = Program(text)
            for k in (*range(1, 10), 17, 32, 51, 64, 99, 100):
                times = 1
                for j in range(k):
                    trip = round_trip(program, k, j, 200)
                    flips = sum(flips_on_way(program, k, place) for place in trip)
                    times = lcm(times, len(trip) * (2 if flips % 2 else 1))
                self.assertEqual(times_home(program, k), times, (text, k))

    def test_times_home_known(self):
        for k in range(1, 101):
            self.assertEqual(times_home(Program(""), k), 1)
            self.assertEqual(times_home(Program("turn"), k), 1 if k == 1 else 2)
            self.assertEqual(times_home(Program("roll 1"), k), k)
            self.assertEqual(times_home(Program("roll 2"), k), k if k % 2 else k // 2)
            self.assertEqual(times_home(Program("flip last"), k), 2)
            self.assertEqual(times_home(Program("roll 1 then flip first"), k), 2 * k)
            self.assertEqual(times_home(Program("flip first then flip last"), k), 1 if k == 1 else 2)
            self.assertEqual(times_home(Program("flip 1 of 2"), k), 1 if k == 1 else 2)

    def test_examples(self):
        self.assertEqual(round_trip(Program("deal"), 5, 1, 10), (1, 3, 4, 2))
        self.assertEqual(place_after(Program("deal"), 5, 1, K), 1)
        self.assertEqual(place_after(Program("deal"), 5, 1, -1), 2)
        self.assertEqual(times_home(Program("roll 2"), 5), 5)
        self.assertEqual(times_home(Program("flip 0 of 2 then turn"), 2), 4)


class RefusalsTest(Case):
    """Points 2 and 8: what is refused, in the order that the document tells."""

    CALLS = [lambda p, k, j: goes_to(p, k, j), lambda p, k, j: comes_from(p, k, j),
             lambda p, k, j: flips_on_way(p, k, j), lambda p, k, j: round_trip(p, k, j, None),
             lambda p, k, j: place_after(p, k, j, "x")]
    SIZES = [*NO_INTEGERS, 0, -1, K + 1, -K, 10 ** 5000]

    def test_not_moves_comes_first(self):
        others = [text for text, parts in EXPECTED.items() if parts[0] not in GOING]
        self.assertGreater(len(others), 70)
        for text in others:
            for ahead, behind in product(range(3), range(2)):
                program = Program(" then ".join(["turn", "flip last"][:ahead] + [text] + ["gather"] * behind))
                for call in self.CALLS:
                    self.refused(NotMoves, "index", ahead, call, program, 5, 2)
                    self.refused(NotMoves, "index", ahead, call, program, 0, -1)
                self.refused(NotMoves, "index", ahead, times_home, program, 5)
                self.refused(NotMoves, "index", ahead, times_home, program, None)

    def test_bad_size_comes_next(self):
        for text in ("", "turn", "deal then flip 0 of 2"):
            for value in self.SIZES:
                for call in self.CALLS:
                    for place in (0, None, -1, True):
                        self.refused(BadSize, "size", value, call, Program(text), value, place)

    def test_bad_place_comes_next(self):
        for text in ("", "turn", "deal then flip 0 of 2"):
            for k in (1, 2, 9, K):
                for value in [*NO_INTEGERS, -1, k, k + 1, 10 ** 5000]:
                    for call in self.CALLS:
                        self.refused(BadNumber, "number", value, call, Program(text), k, value)

    def test_bad_most(self):
        for value in [*NO_INTEGERS, 0, -1, 201, K]:
            for k in (1, 5, K):
                self.refused(BadNumber, "number", value, round_trip, Program("roll 1"), k, 0, value)
        self.assertEqual(round_trip(Program("turn"), 1, 0, 1), (0,))

    def test_bad_times(self):
        for value in [*NO_INTEGERS, K + 1, -K - 1, 10 ** 5000]:
            for k in (1, 5, K):
                self.refused(BadNumber, "number", value, place_after, Program("roll 1"), k, 0, value)

    def test_size_for_times_home(self):
        for value in [*self.SIZES, 101, 1000, K]:
            self.refused(BadSize, "size", value, times_home, Program("turn"), value)
        self.assertEqual(times_home(Program("turn"), 100), 2)

    def test_they_are_not_changed(self):
        program = Program("deal then flip 0 of 2")
        for call in (lambda: goes_to(program, 9, 4), lambda: round_trip(program, 9, 4, 200),
                     lambda: place_after(program, 9, 4, -K), lambda: times_home(program, 9)):
            self.assertEqual(call(), call())
        self.assertEqual(program.text, "deal then flip 0 of 2")
        self.assertEqual(len(program.steps), 2)


if __name__ == "__main__":
    unittest.main()

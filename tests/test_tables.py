import re
import time
import unittest
from unittest.mock import ANY

from allwordlengths.errors import BadNumber, BadSize, TooLarge, TooMany
from allwordlengths.machines import Machine
from allwordlengths.programs import Program
from allwordlengths.tables import Table
from cases import NO_INTEGERS, Case, K
from plain import PlainTable, expected_steps, hung_on, odd_values, plain_states, program_texts

EXPECTED = expected_steps()
STEPS = ["", *EXPECTED]
FEW = ("turn", "roll", "deal", "undeal", "swap", "near", "spread", "flip", "flip first", "flip last")
FEW_TEXTS = [*[text for text, parts in EXPECTED.items() if parts[0] in FEW],
             *program_texts(61, 40, 2, FEW), *program_texts(62, 20, 5, FEW[:5] + FEW[7:])]
LONGER = [text for text in [*program_texts(63, 40, 2), *program_texts(64, 30, 3)]
          if not re.search("sum -?3 at|deal", text)]
LARGE = (2 ** 97 + 1, K - 1, K)

# Programs with how many states their first one, two and so on have; behind the first above 60 none is told.
STATES = [
    ("near 3 at 1 of 4 then sum -2 at 1 of 2 then sum 3 then sum -3", [7, 11, 22, 60]),
    ("deal then near 1 then turn", None),
    ("near 1 at 1 of 3 then sum 2 then roll -1 then near -3 then sum 1", None),
    ("turn then swap then near -2 at 0 of 4 then flip 1 of 3 then spread", None),
    ("gather then spread then gather then spread then gather", None),
    ("sum 1 then sum -2 then sum 3 at 0 of 3", None),
    ("roll 1 then sum 1 then roll 2", None),
    ("sum 3 at 1 of 3", [24]),
    ("sum -3 at 2 of 3 then sum 3 at 2 of 3", [24, 61]),
    ("swap then sum -3 then sum 3 at 2 of 3", [3, 9, 61]),
    ("sum -3 at 2 of 3 then sum 3 at 2 of 3 then near 3 at 2 of 3", [24, 61, None]),
    ("sum -3 at 2 of 3 then sum 3 at 2 of 3 then near 3 at 2 of 3 then near -3 at 2 of 3", [24, 61, None, None]),
    ("flip first then sum -3 then sum 3 at 0 of 3 then turn then turn", None),
]


def looked_at(size):
    return sorted({edge + beside for edge in (0, size // 3, size // 2, (size + 1) // 2, size)
                   for beside in (-4, -3, -2, -1, 0, 1, 2, 5) if 0 <= edge + beside < size})


class ToldTest(Case):
    """Points 16, 20 and 21 against plain doing, at small sizes and at large ones."""

    def check_small(self, text, table, sizes):
        plain = PlainTable(text)
        program = Program(text)
        for k in sizes:
            nothing = program.done((0,) * k)
            words = [program.done([int(place == j) for place in range(k)]) for j in range(k)]
            for i in (*range(k + 3), 2 * k, 2 ** k, K):
                inside = i < k
                self.assertEqual(table.flip(i, k), nothing[i] if inside else 0, (text, i, k))
                row = tuple(j for j in range(k) if inside and words[j][i] != nothing[i])
                self.assertEqual(row, tuple(j for j in range(k) if plain.at(i, j, k)))
                for j in (*range(k + 3), 2 * k, 2 ** k, K):
                    self.assertEqual(table.at(i, j, k), int(j in row), (text, i, j, k))
                self.check_listed(text, row, lambda most: table.row(i, k, most), lambda low: table.next_in_row(i, k, low))
                column = tuple(j for j in range(k) if plain.at(j, i, k))
                self.check_listed(text, column, lambda most: table.column(i, k, most),
                                  lambda low: table.next_in_column(i, k, low))

    def check_listed(self, text, expected, listed, next_from):
        for most in {len(expected), len(expected) + 1, 1000}:
            found = listed(most)
            self.assertEqual((type(found), found), (tuple, expected), text)
        for most in {0, len(expected) - 1}:
            if 0 <= most < len(expected):
                self.refused(TooMany, "most", most, listed, most)
        for low in {0, 1, *expected, *[place + 1 for place in expected], K, 10 ** 40}:
            self.assertEqual(next_from(low), min([place for place in expected if place >= low], default=None), text)

    def test_steps_at_small_sizes(self):
        for text in STEPS:
            self.check_small(text, Table(Program(text)), range(1, 8))

    def test_programs_at_small_sizes(self):
        for text in LONGER:
            self.check_small(text, Table(Program(text)), (1, 2, 3, 5, 8, 13))

    def test_a_size_of_forty(self):
        for text in STEPS[::5]:
            plain, table = PlainTable(text), Table(Program(text))
            for k in (31, 32, 40):
                for i in range(k):
                    self.assertEqual(table.flip(i, k), plain.flip(i, k))
                    self.assertEqual(table.row(i, k, 100), tuple(j for j in range(k) if plain.at(i, j, k)), text)
                    self.assertEqual(table.column(i, k, 100), tuple(j for j in range(k) if plain.at(j, i, k)), text)

    def test_few_places_at_large_sizes(self):
        for text in FEW_TEXTS:
            table = Table(Program(text))
            for k in LARGE:
                for i in looked_at(k)[::3]:
                    places, flip = hung_on(text, k, i)
                    self.assertEqual(table.row(i, k, 1000), places, (text, k, i))
                    self.assertEqual(table.flip(i, k), flip, (text, k, i))
                    for j in places:
                        self.assertEqual(table.at(i, j, k), 1)
                        self.assertEqual(table.at(i, j + 1, k), int(j + 1 in places))
                        self.assertEqual(table.next_in_column(j, k, i), i)
                        self.assertEqual(table.next_in_row(i, k, j), j)
                        self.assertEqual(table.next_in_row(i, k, j + 1), min(
                            [place for place in places if place > j], default=None))
                    for beyond in (k, k + 1, 10 ** 40):
                        self.assertEqual((table.at(i, beyond, k), table.at(beyond, i, k), table.flip(beyond, k)), (0,) * 3)
                        self.assertEqual((table.row(beyond, k, 0), table.column(beyond, k, 0)), ((), ()))
                        self.assertIsNone(table.next_in_row(beyond, k, 0))
                        self.assertIsNone(table.next_in_row(i, k, beyond))

    def test_sums_at_large_sizes(self):
        for by in (-3, -2, -1, 1, 2, 3):
            table = Table(Program("sum %d" % by))
            for k in LARGE:
                for i in looked_at(k):
                    end = k - 1 - (k - 1 - i) % by if by > 0 else i % -by
                    low, high = min(i, end), max(i, end)
                    for j in {i, i + 1, i - 1, i + by, i - by, i + 3 * by, end, end + by, high + abs(by)}:
                        if j >= 0:
                            inside = low <= j <= high and (j - i) % by == 0
                            self.assertEqual(table.at(i, j, k), int(inside), (by, i, j, k))
                            self.assertEqual(table.at(j, i, k), int(
                                j < k and (i - j) * by >= 0 and (i - j) % by == 0), (by, i, j, k))
                    for start in (0, low, low + 1, (low + high) // 2, high, high + 1):
                        expected = max(low, start + (i - start) % abs(by))
                        self.assertEqual(table.next_in_row(i, k, start), expected if expected <= high else None)
                    if (high - low) // abs(by) < 1000:
                        self.assertEqual(table.row(i, k, 1000), tuple(range(low, high + 1, abs(by))))
                    else:
                        self.refused(TooMany, "most", 1000, table.row, i, k, 1000)

    def test_gather_and_spread_at_large_sizes(self):
        gather, spread = Table(Program("gather")), Table(Program("spread"))
        for k in LARGE:
            for i in looked_at(k):
                self.assertEqual([gather.at(0, i, k), spread.at(i, 0, k)], [1, 1])
                self.assertEqual(gather.next_in_row(0, k, i), i)
                self.assertEqual(spread.next_in_column(0, k, i), i)
                self.assertEqual(spread.row(i, k, 2), (0, i) if i else (0,))
                self.assertEqual(gather.column(i, k, 2), (0, i) if i else (0,))
                if i:
                    self.assertEqual(gather.row(i, k, 1), (i,))
            self.refused(TooMany, "most", 1000, gather.row, 0, k, 1000)
            self.refused(TooMany, "most", 1000, spread.column, 0, k, 1000)
            self.refused(TooMany, "most", 0, gather.row, 0, k, 0)

    def test_just_a_thousand(self):
        table = Table(Program("sum 1"))
        self.assertEqual(table.row(K - 1000, K, 1000), tuple(range(K - 1000, K)))
        self.assertEqual(table.column(999, K, 1000), tuple(range(1000)))
        self.refused(TooMany, "most", 1000, table.row, K - 1001, K, 1000)
        self.refused(TooMany, "most", 999, table.column, 999, K, 999)

    def test_examples(self):
        table = Table(Program("turn"))
        self.assertEqual(table.at(4, 10 ** 30 - 5, 10 ** 30), 1)
        self.assertEqual(table.row(4, 10 ** 30, 3), (10 ** 30 - 5,))
        total = Table(Program("sum 1"))
        self.assertEqual(total.next_in_row(5, K, 7), 7)
        self.refused(TooMany, "most", 3, total.row, 5, K, 3)
        self.assertEqual((total.row(5, 8, 3), total.column(2, K, 3)), ((5, 6, 7), (0, 1, 2)))
        self.assertIsNone(total.next_in_column(2, K, 3))
        self.refused(BadNumber, "number", -1, total.flip, -1, 0)
        flip = Table(Program("flip 1 of 2"))
        self.assertEqual((flip.flip(3, 10), flip.flip(13, 10)), (1, 0))
        self.assertEqual(Table(Program("near 1 then near 1")), Table(Program("near 2")))
        self.assertEqual(Table(Program("turn then roll 1 then turn")), Table(Program("roll -1")))


class MadeTest(Case):
    """Points 19 and 20: how a table is made, TooLarge and ==."""

    def test_attributes(self):
        program = Program("near 1 then flip first")
        table = Table(program)
        self.assertEqual(table.program, program)
        self.assertEqual([type(table.machine), type(table.flip_machine)], [Machine, Machine])
        self.assertEqual([len(table.machine.letters), len(table.flip_machine.letters)], [8, 4])
        self.assertEqual(Table(program=program), table)

    def test_states_of_beginnings(self):
        """Each beginning is refused just if it, or a shorter one, has too many states by plain doing."""
        for text, known in STATES:
            program = Program(text)
            refused = False
            for many in range(1, len(program) + 1):
                beginning = program.beginning(many)
                if not refused:
                    states = plain_states(beginning.text, 3)
                    refused = states > 60
                    if known:
                        self.assertEqual(known[many - 1], states, beginning.text)
                if refused:
                    self.refused(TooLarge, "most", 60, Table, beginning)
                else:
                    self.assertEqual(Table(beginning).machine.states, states, beginning.text)

    def test_more_states_that_need_longer_paths(self):
        text = "near 3 at 1 of 3 then undeal then sum 2 at 0 of 2"
        self.assertEqual((Table(Program(text)).machine.states, plain_states(text, 4)), (60, 60))
        for text in ("sum -3 at 1 of 3 then undeal", "deal then sum 3 at 0 of 3"):
            self.refused(TooLarge, "most", 60, Table, Program(text))
            self.assertEqual(plain_states(text, 4), 61)

    def test_tables_of_programs_that_do_the_same(self):
        for one, other in (
                ("", "turn then turn"), ("near 2 then sum 2", ""), ("near 1 then near 1", "near 2"),
                ("deal then undeal", "roll 1 then roll -1"), ("turn then sum 3 then turn", "sum -3"),
                ("flip 0 of 2 then flip 1 of 2", "flip 1 of 2 then flip 0 of 2"),
                ("flip 0 of 4 then flip 2 of 4", "flip 0 of 2"), ("sum 2 at 0 of 2 then sum 2 at 1 of 2", "sum 2"),
                ("turn then flip last", "flip first then turn"), ("roll 2 then roll -3", "roll -1"),
                ("roll 1 then roll 1 then roll 1", "roll 3"), ("gather then gather", "spread then spread")):
            self.assertIs(Table(Program(one)) == Table(Program(other)), True, (one, other))
            self.assertIs(Table(Program(one)) != Table(Program(other)), False, (one, other))

    def test_tables_of_programs_that_do_not(self):
        tables = [(text, Table(Program(text))) for text in STEPS]
        for at, (one, first) in enumerate(tables):
            for other, second in tables[at:at + 12]:
                self.assertIs(first == second, one == other, (one, other))
        self.assertNotEqual(Table(Program("flip first")), Table(Program("flip last")))
        self.assertNotEqual(Table(Program("flip first")), Table(Program("")))
        self.assertNotEqual(Table(Program("swap")), Table(Program("turn")))

    def test_other_kinds(self):
        for text in ("", "turn"):
            table = Table(Program(text))
            for value in [*odd_values(), 0, "", text, Program(text), table.machine, ANY]:
                self.assertIs(table == value, False)
                self.assertIs(table != value, True)

    def test_a_table_is_made_in_a_moment(self):
        for text in [*program_texts(65, 60, 5), "deal then sum -3 at 0 of 3 then turn then turn then turn"]:
            begun = time.perf_counter()
            try:
                Table(Program(text))
            except TooLarge:
                pass
            self.assertLess(time.perf_counter() - begun, 5, text)


class RefusalsTest(Case):
    """Points 2, 20 and 21: what is refused, in the order that the document tells."""

    BAD = [*NO_INTEGERS, -1, -K]
    SIZES = [*BAD, 0, K + 1, 10 ** 5000]
    MOSTS = [*BAD, 1001, K]

    def setUp(self):
        self.tables = [Table(Program(text)) for text in ("", "sum 1", "deal then flip 0 of 2")]

    def test_at_and_flip(self):
        for table in self.tables:
            for value in self.BAD:
                for other in (0, K, None, -2, "j"):
                    for k in (5, 0, None):
                        self.refused(BadNumber, "number", value, table.at, value, other, k)
                for k in (5, 0, None, -3):
                    self.refused(BadNumber, "number", value, table.at, 3, value, k)
                    self.refused(BadNumber, "number", value, table.flip, value, k)
            for value in self.SIZES:
                for place in (0, 5, K, 10 ** 40):
                    self.refused(BadSize, "size", value, table.at, place, 0, value)
                    self.refused(BadSize, "size", value, table.at, 0, place, value)
                    self.refused(BadSize, "size", value, table.flip, place, value)

    def test_rows_and_columns(self):
        for table in self.tables:
            for call, last in ((table.row, self.MOSTS), (table.column, self.MOSTS), (table.next_in_row, self.BAD),
                               (table.next_in_column, self.BAD)):
                for value in self.BAD:
                    for k, more in ((5, 5), (0, -1), (None, None), (True, "x")):
                        self.refused(BadNumber, "number", value, call, value, k, more)
                for value in self.SIZES:
                    for place, more in ((0, 5), (10 ** 40, 0), (3, None), (3, -1)):
                        self.refused(BadSize, "size", value, call, place, value, more)
                for value in last:
                    for place, k in ((0, 5), (0, K), (7, 5), (10 ** 40, 1)):
                        self.refused(BadNumber, "number", value, call, place, k, value)

    def test_what_is_told_is_new(self):
        table = self.tables[1]
        self.assertIsNot(table.row(0, 9, 9), table.row(0, 9, 9))
        self.assertIsNot(table.column(5, 9, 9), table.column(5, 9, 9))


if __name__ == "__main__":
    unittest.main()

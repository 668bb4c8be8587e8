import unittest
from unittest.mock import ANY

from allwordlengths.errors import BadLetter
from allwordlengths.machines import Machine
from allwordlengths.programs import Program
from allwordlengths.tables import Table
from cases import NO_INTEGERS, Case
from plain import Rows, Sums, expected_steps, letters_of, odd_values, paths_upto, program_texts, put

STEPS = ["", *expected_steps()]
FLIPS = [text for text, parts in expected_steps().items() if parts[0].startswith("flip")]
PAIRS = [text for text in program_texts(51, 60, 2) if " then " in text]
FLIP_PAIRS = [one + " then " + other for one in FLIPS for other in ("roll -2", "sum 2 at 1 of 2", "flip 2 of 3")]


def order(path):
    return len(path.split(" ")) if path else 0, path


class LeastTest(Case):
    """Points 16 to 18, 20 and 22: the machines of T and F are the least ones."""

    def check(self, text, machine, digits, most):
        """Compare a machine with T or F, found by plain doing, for paths with up to most letters more."""
        letters = letters_of(digits)
        self.assertIs(type(machine), Machine)
        self.assertEqual(machine.letters, tuple(letters))
        self.assertEqual(machine.states, len(machine.paths))
        self.assertEqual(list(machine.paths), sorted(machine.paths, key=order))
        rows = Rows(text, digits, most)
        seen = {path: rows(path) for path in machine.paths}
        sums = Sums()
        for path, end in zip(machine.paths, machine.ends):
            self.assertTrue(sums.add(seen[path]), (text, path))
            self.assertTrue(path == "" or path.rpartition(" ")[0] in seen)
            self.assertEqual((type(end), end), (int, seen[path] & 1), (text, path))
        self.assertEqual(len(machine.ends), machine.states)
        for letter in letters:
            moves = machine.moves(letter)
            self.assertEqual((type(moves), len(moves)), (tuple, machine.states))
            for path, places in zip(machine.paths, moves):
                self.check_sum(text, machine, seen, put(path, letter), places, rows)
        self.check_sum(text, machine, seen, "", machine.sum_for(""), rows)

    def check_sum(self, text, machine, seen, path, places, rows):
        """The new paths at these places tell what comes behind a path, and stand no later than it."""
        self.assertEqual((type(places), list(places)), (tuple, sorted(set(places))))
        total = 0
        for place in places:
            self.assertLessEqual(order(machine.paths[place]), order(path), (text, path))
            total ^= seen[machine.paths[place]]
        self.assertEqual(total, rows(path), (text, path))
        if path in seen:
            self.assertEqual(places, (machine.paths.index(path),))
        else:
            self.assertNotIn(path, [machine.paths[place] for place in places])

    def test_tables_of_the_99_steps(self):
        for text in STEPS:
            self.check(text, Table(Program(text)).machine, 3, 3)

    def test_flips_of_steps_and_pairs(self):
        for text in STEPS + FLIP_PAIRS:
            self.check(text, Table(Program(text)).flip_machine, 2, 4)

    def test_tables_of_pairs(self):
        for text in PAIRS:
            self.check(text, Table(Program(text)).machine, 3, 3)

    def test_values_of_all_short_paths(self):
        for text in STEPS + PAIRS[:15]:
            table = Table(Program(text))
            for machine, digits in ((table.machine, 3), (table.flip_machine, 2)):
                values = Rows(text, digits, 4)("")
                for place, path in enumerate(paths_upto(digits, 4)):
                    found = machine.value(path)
                    self.assertEqual((type(found), found), (int, values >> place & 1), (text, path))

    def test_sums_for_all_short_paths(self):
        for text in STEPS[::6] + PAIRS[:6]:
            table = Table(Program(text))
            for machine, digits in ((table.machine, 3), (table.flip_machine, 2)):
                rows = Rows(text, digits, 2)
                seen = {path: rows(path) for path in machine.paths}
                for path in paths_upto(digits, 3):
                    self.check_sum(text, machine, seen, path, machine.sum_for(path), rows)

    def test_longer_paths(self):
        for text in STEPS[::9]:
            machine = Table(Program(text)).machine
            rows = Rows(text, 3, 1)
            seen = {path: rows(path) for path in machine.paths}
            for path in paths_upto(3, 2)[::5]:
                longer = put(path, "101 011 110 001")
                total = 0
                for place in machine.sum_for(longer):
                    total ^= seen[machine.paths[place]]
                self.assertEqual(total, rows(longer))
                for noughts in range(3):
                    self.assertEqual(machine.value(put(longer, " ".join(["000"] * noughts))), machine.value(longer))

    def test_states(self):
        for text, states in (("turn", 2), ("", 2), ("swap", 3), ("near 1", 4), ("sum 1", 4), ("roll 1", 5),
                             ("gather", 6), ("spread", 6), ("deal", 9), ("turn then near 1", 3),
                             ("near 1 then turn", 5)):
            self.assertEqual(Table(Program(text)).machine.states, states, text)

    def test_examples(self):
        table = Table(Program("turn"))
        machine = table.machine
        self.assertEqual((machine.paths, machine.ends), (("", "001"), (0, 1)))
        for letter, moves in (("000", ((), (1,))), ("001", ((1,), ())), ("100", ((0,), ())), ("010", ((0,), ())),
                              ("110", ((), (0,))), ("101", ((), (1,))), ("011", ((), (1,))), ("111", ((0,), ()))):
            self.assertEqual(machine.moves(letter), moves)
        self.assertEqual([machine.value(path) for path in ("011 001", "001 001 010", "001 011")], [0, 0, 1])
        self.assertEqual(table.flip_machine.paths, ())

    def test_no_states(self):
        machine = Table(Program("deal")).flip_machine
        self.assertEqual((machine.letters, machine.paths, machine.states, machine.ends),
                         (("00", "01", "10", "11"), (), 0, ()))
        for letter in machine.letters:
            self.assertEqual(machine.moves(letter), ())
        for path in ("", "11", "01 11 10"):
            self.assertEqual((machine.value(path), machine.sum_for(path)), (0, ()))


class AskedTest(Case):
    """Points 2 and 18: what is refused, what is new, and ==."""

    def setUp(self):
        table = Table(Program("near 1 at 0 of 2 then flip 1 of 2"))
        self.machines = [(table.machine, "0000"), (table.flip_machine, "000"),
                         (Table(Program("turn")).flip_machine, "000")]

    def test_bad_letters(self):
        for machine, longer in self.machines:
            others = {3: ["00", "11", "0"], 2: ["000", "111", "1"]}[len(machine.letters[0])]
            for value in [*NO_INTEGERS, 0, 1, 0b101, longer, " ", "012", "0 0", "abc", "\u0660\u0660\u0660", *others,
                          machine.letters[1] + " ", " " + machine.letters[1], machine.letters[:2]]:
                self.refused(BadLetter, "letter", value, machine.moves, value)

    def test_bad_paths(self):
        for machine, longer in self.machines:
            good = machine.letters[1]
            for call in (machine.value, machine.sum_for):
                for part in (longer, "", "x", "2" * len(good), "0", "00000", good + "\n", good + "\t" + good):
                    for path in (part, good + " " + part, good + " " + good + " " + part + " " + good,
                                 good + " " + part + " x", part + " " + good):
                        if path:
                            self.refused(BadLetter, "letter", part, call, path)
                for path in (" ", good + "  " + good, good + " ", " " + good):
                    self.refused(BadLetter, "letter", "", call, path)

    def test_values_that_are_no_texts(self):
        for machine, _ in self.machines:
            for value in [*odd_values(), 0, 1, machine, list(machine.letters)]:
                for call in (machine.value, machine.sum_for):
                    self.refused(BadLetter, "letter", value, call, value)

    def test_the_empty_text(self):
        for text in STEPS:
            machine = Table(Program(text)).machine
            self.assertEqual((machine.value(""), machine.sum_for("")), (0, (0,)))

    def test_what_is_told_is_new(self):
        machine, _ = self.machines[0]
        for letter in machine.letters:
            self.assertEqual(machine.moves(letter), machine.moves(letter))
            self.assertIsNot(machine.moves(letter), machine.moves(letter))
        self.assertIsNot(machine.sum_for("001"), machine.sum_for("001"))

    def test_equal(self):
        texts = ["", "turn", "near 1", "sum 1", "near 1 then near 1", "near 2", "flip first", "deal", "undeal",
                 "deal then undeal", "flip 0 of 2", "flip 1 of 2", "turn then flip last then turn", "roll 1"]
        tables = [Table(Program(text)) for text in texts]
        for one in tables:
            for other in tables:
                for first in (one.machine, one.flip_machine):
                    for second in (other.machine, other.flip_machine):
                        expected = all([first.letters == second.letters, first.paths == second.paths,
                                        first.ends == second.ends, [first.moves(x) for x in first.letters] == [
                                            second.moves(x) for x in second.letters if x in second.letters]])
                        self.assertIs(first == second, expected)
                        self.assertIs(first != second, not expected)
        self.assertEqual(Table(Program("turn")).flip_machine, Table(Program("deal")).flip_machine)
        self.assertNotEqual(Table(Program("flip first")).flip_machine, Table(Program("flip last")).flip_machine)

    def test_other_kinds(self):
        for machine, _ in self.machines:
            for value in [*odd_values(), 0, "", machine.letters, machine.paths, Program(""), ANY]:
                self.assertIs(machine == value, False)
                self.assertIs(machine != value, True)


if __name__ == "__main__":
    unittest.main()

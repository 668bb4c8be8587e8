"""Points 43 to 45: benches."""

import unittest
from random import Random
from unittest.mock import ANY

from allwordlengths.bench import Bench
from allwordlengths.errors import (
    BadLine, BadName, BadSize, BadText, NoName, NothingToRedo, NothingToUndo, TooLarge, TooMany,
)
from allwordlengths.programs import Program
from allwordlengths.steps import Step
from cases import LARGE, NO_INTEGERS, REWRITTEN, Case, K
from plain import are_alike, expected_steps, odd_values, program_texts

STEPS = list(expected_steps())
NO_NAMES = [*odd_values(), 0, 1, "", "A", "aB", "a1", "1", "a b", " a", "a ", "a\n", "\n", "a-b", "a_b", "abcdefghijklm",
            "a" * 13, "a:", "\u00e4", "\u00df", "\u03b1", "\u0430", "a\u0301", "\uff41", Program("turn"), Step("turn")]


class Fault(Exception):
    """An error that is not one of the package."""


class Model:
    """All states of a bench, one list of pairs of name and text each, and the one that holds."""

    def __init__(self):
        self.states, self.at, self.floor = [[]], 0, 0

    def rows(self):
        return self.states[self.at]

    def names(self):
        return [name for name, _ in self.rows()]

    def text_of(self, name):
        for own, text in self.rows():
            if own == name:
                return text
        raise NoName(name)

    def deed(self, rows):
        self.states[self.at + 1:] = [rows]
        self.at += 1

    def put(self, name, text):
        if not (1 <= len(name) <= 12 and all("a" <= letter <= "z" for letter in name)):
            raise BadName(name)
        self.set_text(name, text)

    def set_text(self, name, text):
        if name in self.names():
            self.deed([(own, text if own == name else other) for own, other in self.rows()])
        elif len(self.rows()) == 20:
            raise TooMany(20)
        else:
            self.deed(self.rows() + [(name, text)])

    def drop(self, name):
        text = self.text_of(name)
        self.deed([row for row in self.rows() if row[0] != name])
        return text

    def turn_back(self, name):
        parts = self.text_of(name).split(" then ")
        self.set_text(name, " then ".join(expected_steps()[part][3] for part in parts[::-1] if part))

    def chain(self, name, names):
        if not (1 <= len(name) <= 12 and all("a" <= letter <= "z" for letter in name)):
            raise BadName(name)
        parts = [part for member in names for part in self.text_of(member).split(" then ") if part]
        if len(parts) > 5:
            raise TooMany(5)
        if len([part for part in parts if part in ("deal", "undeal")]) > 2:
            raise TooMany(2)
        self.set_text(name, " then ".join(parts))

    def undo(self):
        if self.at == self.floor:
            raise NothingToUndo()
        self.at -= 1

    def redo(self):
        if self.at + 1 == len(self.states):
            raise NothingToRedo()
        self.at += 1

    def at_once(self, action):
        before = list(self.states), self.at, self.floor
        self.states, self.floor = self.states[:self.at + 1], self.at
        try:
            result = action()
        except BaseException:
            self.states, self.at, self.floor = before
            raise
        rows, done = self.rows(), self.at > self.floor
        self.states, self.at, self.floor = before
        if done:
            self.deed(rows)
        return result

    def written(self):
        return "\n".join("%s: %s" % row for row in self.rows())


class Side:
    """A bench with the methods of the model."""

    def __init__(self):
        self.bench = Bench()
        for word in ("turn_back", "chain", "undo", "redo", "at_once", "written"):
            setattr(self, word, getattr(self.bench, word))

    def put(self, name, text):
        self.bench[name] = Program(text)

    def drop(self, name):
        return self.bench.drop(name).text


def told(error):
    return type(error).__name__, list(vars(error).values())


def run(side, deed, log):
    """Do a deed, and put what it returned or raised behind the log."""
    word, *more = deed
    try:
        if word == "at_once":
            log.append(("at once", side.at_once(lambda: inner(side, *more, log))))
        else:
            log.append((word, getattr(side, word)(*more)))
    except (ValueError, Fault) as error:
        log.append(told(error))
    log.append(side.written())


def inner(side, deeds, ending, log):
    for deed in deeds:
        run(side, deed, log)
    if ending == "fault":
        raise Fault("x")
    if ending == "refused":
        side.drop("nosuchname")
    return ending


def some_deed(random, depth=0):
    name = random.choice(["a", "b", "c", "ab", "zz", "abcdefghijkl", *"defghijklmnopqrstuvwxyz"[:random.choice([2, 23])]])
    kind = random.choice(["put"] * 5 + ["drop", "turn_back", "chain", "chain", "undo", "undo", "undo", "redo", "redo", "at_once"])
    if kind == "put":
        text = random.choice(["", "turn", "near 1", "deal", "undeal then roll 2", "sum -1 then flip last", "roll 1 then roll 1"])
        return "put", random.choice([name, name, name, name, "A", ""]), text
    if kind in ("drop", "turn_back"):
        return kind, name
    if kind == "chain":
        return kind, random.choice([name, name, name, "a b"]), [random.choice("abcde") for _ in range(random.randint(0, 4))]
    if kind == "at_once" and depth < 3:
        deeds = [some_deed(random, depth + 1) for _ in range(random.choice([0, 1, 2, 3, 6]))]
        return kind, deeds, random.choice(["end", "end", None, "fault", "refused"])
    return "undo" if kind == "at_once" else kind,


class ManyDeedsTest(Case):
    """Points 43 and 44: all deeds in many orders, against a plain model that keeps all former states."""

    def follow(self, deeds):
        side, model = Side(), Model()
        for deed in deeds:
            logs = [], []
            run(side, deed, logs[0])
            run(model, deed, logs[1])
            self.assertEqual(*logs, deed)
            self.assertEqual(list(side.bench), model.names())
            self.assertEqual(len(side.bench), len(model.rows()))
        return side, model

    def take_back_all(self, side, model, word, error):
        while True:
            try:
                getattr(model, word)()
            except error:
                self.assertRaises(error, getattr(side, word))
                self.assertEqual(side.written(), model.written())
                return
            getattr(side, word)()
            self.assertEqual(side.written(), model.written())

    def test_many_orders(self):
        random = Random(191)
        for _ in range(150):
            side, model = self.follow([some_deed(random) for _ in range(random.choice([10, 40, 80]))])
            self.take_back_all(side, model, "undo", NothingToUndo)
            self.take_back_all(side, model, "redo", NothingToRedo)
            self.take_back_all(side, model, "undo", NothingToUndo)
            self.assertEqual(side.written(), "")

    def test_hundreds_of_deeds(self):
        random = Random(192)
        deeds = []
        while len(deeds) < 1000:
            deed = some_deed(random)
            if deed[0] not in ("undo", "redo"):
                deeds.append(deed)
        side, model = self.follow(deeds)
        self.assertGreater(model.at, 350)
        for _ in range(2):
            self.take_back_all(side, model, "undo", NothingToUndo)
            self.take_back_all(side, model, "redo", NothingToRedo)


class NamesTest(Case):
    """Point 43: programs under names."""

    def setUp(self):
        self.bench = Bench()
        self.bench["a"] = Program("near 1")
        self.bench["b"] = Program("near 2")

    def test_put_and_read(self):
        program = Program("turn")
        self.bench["c"] = program
        self.assertEqual(self.bench["c"], program)
        self.bench["a"] = Program("swap")
        self.assertEqual(list(self.bench), ["a", "b", "c"])
        self.assertEqual([self.bench[name].text for name in self.bench], ["swap", "near 2", "turn"])
        self.bench["abcdefghijkl"] = program
        self.assertEqual(len(self.bench), 4)

    def test_a_loop_over_a_bench_that_changes(self):
        self.assertEqual([(name, self.bench.drop(name).text) for name in self.bench], [("a", "near 1"), ("b", "near 2")])
        self.assertEqual(len(self.bench), 0)

    def test_no_names(self):
        for value in NO_NAMES:
            self.refused(BadName, "name", value, self.bench.__setitem__, value, Program("turn"))
            for names in ((), ("a",), ("x", None), [value]):
                self.refused(BadName, "name", value, self.bench.chain, value, names)
            self.refused(NoName, "name", value, self.bench.__getitem__, value)
            self.assertIs(value in self.bench, False)
        self.assertEqual(self.bench.written(), "a: near 1\nb: near 2")

    def test_names_that_are_not_in_the_bench(self):
        for value in [*NO_NAMES, "c", "ab", "abcdefghijkl"]:
            for call in (self.bench.__getitem__, self.bench.drop, self.bench.turn_back):
                self.refused(NoName, "name", value, call, value)
            for names in ([value], ["a", value], ("b", "a", value, None), ["a"] * 6 + [value]):
                self.refused(NoName, "name", value, self.bench.chain, "c", names)
            self.assertIs(value in self.bench, False)
        self.assertIs("a" in self.bench, True)
        self.bench.undo()
        self.assertEqual(self.bench.written(), "a: near 1")
        self.refused(NoName, "name", "b", self.bench.drop, "b")

    def fill(self):
        for letter in "cdefghijklmnopqrst":
            self.bench[letter] = Program("roll 1")

    def test_twenty_names(self):
        self.fill()
        self.assertEqual(len(self.bench), 20)
        self.refused(TooMany, "most", 20, self.bench.__setitem__, "u", Program(""))
        self.refused(BadName, "name", "U", self.bench.__setitem__, "U", Program(""))
        self.bench["t"] = Program("turn")
        self.bench.chain("t", ("t", "t"))
        self.bench.turn_back("a")
        self.refused(TooMany, "most", 20, self.bench.chain, "u", ())
        self.refused(TooMany, "most", 20, self.bench.chain, "u", ["a"])
        self.refused(TooMany, "most", 5, self.bench.chain, "u", ["a"] * 6)
        self.bench["d"] = Program("deal")
        self.refused(TooMany, "most", 2, self.bench.chain, "u", ["d"] * 3)
        self.refused(NoName, "name", "u", self.bench.chain, "u", ["u"])
        self.bench.drop("c")
        self.bench["u"] = Program("")
        self.assertEqual(list(self.bench)[-1], "u")
        self.bench.undo()
        self.bench.undo()
        self.assertEqual(list(self.bench), list("abcdefghijklmnopqrst"))

    def test_chain(self):
        self.bench.chain("c", ("a", "b", "a"))
        self.bench.chain("a", ["a", "a"])
        self.bench.chain("d", [])
        self.bench.chain("e", ("d", "a", "d"))
        self.assertEqual(self.bench.written(), "a: near 1 then near 1\nb: near 2\nc: near 1 then near 2 then near 1\nd: \n"
                                               "e: near 1 then near 1")
        self.refused(TooMany, "most", 5, self.bench.chain, "f", ("a", "c", "b"))
        self.refused(NoName, "name", "f", self.bench.chain, "f", ("a", "c", "b", "f"))
        self.bench["d"] = Program("deal then undeal")
        self.refused(TooMany, "most", 5, self.bench.chain, "f", ["d"] * 3)
        self.refused(TooMany, "most", 2, self.bench.chain, "d", ["d", "d"])
        names = ["a", "b"]
        self.bench.chain("x", names)
        names.append("q")
        self.assertEqual(self.bench["x"].text, "near 1 then near 1 then near 2")

    def test_turn_back(self):
        for text in program_texts(193, 40, 5):
            self.bench["a"] = Program(text)
            self.bench.turn_back("a")
            self.assertEqual(self.bench["a"], ~Program(text))
            self.assertEqual(list(self.bench), ["a", "b"])

    def test_deeds_return_nothing(self):
        for call in (lambda: self.bench.turn_back("a"), lambda: self.bench.chain("c", "ab"[:0]), self.bench.undo, self.bench.redo):
            self.assertIs(call(), None)
        self.assertEqual(self.bench.drop("b"), Program("near 2"))

    def test_equal(self):
        other = Bench()
        self.assertNotEqual(self.bench, other)
        other["b"] = Program("near 2")
        other["a"] = Program("near 1")
        self.assertIs(self.bench == other, False)
        self.assertIs(self.bench != other, True)
        other.drop("b")
        other["b"] = Program("near 2")
        self.assertIs(self.bench == other, True)
        self.assertIs(self.bench != other, False)
        self.assertEqual(Bench(), Bench())
        other["b"] = Program("near 1 then near 1")
        self.assertNotEqual(self.bench, other)
        for value in [*odd_values(), 0, "", self.bench.written(), Program(""), {"a": Program("near 1")}, ANY]:
            self.assertIs(self.bench == value, False)
            self.assertIs(self.bench != value, True)
            self.assertIs(Bench() == value, False)

    def test_two_benches_keep_apart(self):
        other = Bench()
        self.assertEqual(len(other), 0)
        self.assertRaises(NothingToUndo, other.undo)


class WrittenTest(Case):
    """Point 43: written and read."""

    def test_there_and_back(self):
        random = Random(194)
        for many in (0, 1, 2, 7, 19, 20):
            bench = Bench()
            texts = ["", *program_texts(195 + many, many, 5)][:many]
            for text in texts:
                bench["".join(random.choice("abcxyz") for _ in range(random.randint(1, 12)))] = Program(text)
            written = bench.written()
            again = Bench.read(written)
            self.assertIs(type(again), Bench)
            self.assertEqual(again, bench)
            self.assertEqual((list(again), again.written()), (list(bench), written))
            self.assertEqual([again[name] for name in again], [bench[name] for name in bench])
            self.assertRaises(NothingToUndo, again.undo)
            self.assertRaises(NothingToRedo, again.redo)
            again[texts and list(again)[0] or "q"] = Program("swap")
            self.assertNotEqual(again, bench)
            again.undo()
            self.assertEqual(again, bench)

    def test_no_texts(self):
        for value in [*odd_values(), 0, 1, ["a: turn"], b"a: turn", Program("turn"), Bench()]:
            self.refused(BadText, "text", value, Bench.read, value)

    def test_too_many_lines(self):
        lines = ["%s: turn" % letter for letter in "abcdefghijklmnopqrst"]
        self.assertEqual(len(Bench.read("\n".join(lines))), 20)
        for more in ("u: turn", "", "x", "a: turn"):
            self.refused(TooMany, "most", 20, Bench.read, "\n".join([*lines, more]))
            self.refused(TooMany, "most", 20, Bench.read, "\n".join([more, *lines]))
        self.refused(TooMany, "most", 20, Bench.read, "\n" * 20)
        self.refused(BadLine, "number", 1, Bench.read, "\n" * 19)

    def test_one_line_spoilt(self):
        names = "abcdefghijklmnopqrst"
        for many in (1, 2, 5, 20):
            lines = ["%s: roll 1 then turn" % letter for letter in names[:many]]
            for number in range(1, many + 1):
                good = lines[number - 1]
                spoilt = ["", " ", good + " ", " " + good, good.replace(": ", ":"), good.replace(": ", " : "),
                          good.replace(": ", ":  "), good.upper(), good + " then", good + " then turn4", "x", "x:", ": turn", ":",
                          "xx turn", "x;turn", "x1: turn", "xyxyxyxyxyxyx: turn", "\u00e4: turn", good + "\r", good + ":", "x: " * 2,
                          "x: deal then deal then undeal", "x: " + " then ".join(["turn"] * 6), "x:\tturn", "x: turn then turn then",
                          "x: near 1 at 1 of 1", "X: turn"]
                if number > 1:
                    spoilt += [lines[0], "a: ", "a: swap"]
                for line in spoilt:
                    told = lines[:number - 1] + [line] + lines[number:]
                    if many == 1 and line == "":
                        continue
                    self.refused(BadLine, "number", number, Bench.read, "\n".join(told))
                    # The first line of those that are spoilt counts.
                    told[-1] = line if number == many else "x"
                    self.refused(BadLine, "number", number, Bench.read, "\n".join(told))

    def test_names_twice(self):
        self.refused(BadLine, "number", 3, Bench.read, "a: turn\nb: turn\na: turn")
        self.refused(BadLine, "number", 2, Bench.read, "a: turn\na: turn\nx")

    def test_examples(self):
        bench = Bench()
        bench["a"] = Program("near 1")
        bench["b"] = Program("near 2")
        bench.chain("aa", ("a", "a"))
        self.assertEqual(bench.written(), "a: near 1\nb: near 2\naa: near 1 then near 1")
        self.assertEqual(bench.groups(), (("a",), ("b", "aa")))
        self.assertEqual(bench.groups_at(2), (("a",), ("b", "aa")))
        self.assertEqual(bench.groups_at(1), (("a", "b", "aa"),))
        bench.turn_back("a")
        self.assertEqual(bench.written().split("\n")[0], "a: sum 1")
        written = bench.written()
        self.refused(TooMany, "most", 5, bench.chain, "c", ("b", "aa", "aa", "a"))
        self.assertEqual(bench.written(), written)
        bench.undo()
        self.assertEqual(bench["a"].text, "near 1")
        self.assertEqual(bench.drop("a"), Program("near 1"))
        self.assertRaises(NothingToRedo, bench.redo)

        def action():
            bench["x"] = Program("turn")
            raise KeyError("x")
        self.assertRaises(KeyError, bench.at_once, action)
        self.assertNotIn("x", bench)
        read = Bench.read("a: turn\nb: ")
        self.assertEqual((len(read), len(read["b"])), (2, 0))
        for text, number in (("a: turn\n", 2), ("a: turn then", 1), ("a:turn", 1), ("a: turn\na: swap", 2),
                             ("a: deal then deal then deal", 1)):
            self.refused(BadLine, "number", number, Bench.read, text)
        self.assertEqual(len(Bench.read("")), 0)


class AtOnceTest(Case):
    """Point 44: at_once, case by case."""

    def setUp(self):
        self.bench = Bench.read("a: turn\nb: swap")
        self.bench["c"] = Program("near 1")
        self.bench["d"] = Program("near 2")
        self.bench.undo()
        self.start = "a: turn\nb: swap\nc: near 1"

    def check_start(self):
        """The bench is as it was made, with one deed to take back and one to do again."""
        self.assertEqual(self.bench.written(), self.start)
        self.bench.redo()
        self.assertEqual(self.bench.written(), self.start + "\nd: near 2")
        self.assertRaises(NothingToRedo, self.bench.redo)
        self.bench.undo()
        self.bench.undo()
        self.assertEqual(self.bench.written(), "a: turn\nb: swap")
        self.assertRaises(NothingToUndo, self.bench.undo)
        self.bench.redo()
        self.assertEqual(self.bench.written(), self.start)

    def test_one_deed(self):
        value = object()

        def action():
            self.bench.drop("a")
            self.bench["x"] = Program("")
            self.bench.turn_back("c")
            return value
        self.assertIs(self.bench.at_once(action), value)
        self.assertEqual(self.bench.written(), "b: swap\nc: sum 1\nx: ")
        self.assertRaises(NothingToRedo, self.bench.redo)
        self.bench.undo()
        self.assertEqual(self.bench.written(), self.start)
        self.bench.redo()
        self.assertEqual(self.bench.written(), "b: swap\nc: sum 1\nx: ")
        self.bench.undo()
        self.bench.undo()
        self.assertEqual(self.bench.written(), "a: turn\nb: swap")

    def test_no_deeds(self):
        self.assertIs(self.bench.at_once(lambda: None), None)
        self.assertEqual(self.bench.at_once(lambda: 7), 7)
        self.check_start()

    def test_all_taken_back(self):
        def action():
            self.bench["x"] = Program("")
            self.bench.drop("a")
            self.bench.undo()
            self.bench.redo()
            self.bench.undo()
            self.bench.undo()
            self.assertRaises(NothingToUndo, self.bench.undo)
            self.assertEqual(self.bench.written(), self.start)
        self.bench.at_once(action)
        self.check_start()

    def test_some_taken_back(self):
        def action():
            self.bench["x"] = Program("")
            self.bench.drop("a")
            self.bench.undo()
        self.bench.at_once(action)
        self.assertEqual(self.bench.written(), self.start + "\nx: ")
        self.assertRaises(NothingToRedo, self.bench.redo)
        self.bench.undo()
        self.assertEqual(self.bench.written(), self.start)
        self.bench.redo()
        self.assertEqual(self.bench.written(), self.start + "\nx: ")

    def test_deeds_that_change_nothing_count(self):
        def action():
            self.bench["a"] = self.bench["a"]
        self.bench.at_once(action)
        self.assertRaises(NothingToRedo, self.bench.redo)
        self.bench.undo()
        self.bench.undo()
        self.assertEqual(self.bench.written(), "a: turn\nb: swap")

    def test_only_deeds_within_are_known(self):
        def action():
            self.assertRaises(NothingToUndo, self.bench.undo)
            self.assertRaises(NothingToRedo, self.bench.redo)
        self.bench.at_once(action)
        self.check_start()

    def test_errors(self):
        class Own(BaseException):
            pass
        for error in (KeyError("x"), Own(), NoName("q"), TooMany(20), StopIteration(), KeyboardInterrupt(), ValueError()):
            for undone in (False, True):
                def action():
                    self.bench["x"] = Program("")
                    self.bench.drop("b")
                    if undone:
                        self.bench.undo()
                        self.bench.undo()
                    raise error
                with self.assertRaises(type(error)) as caught:
                    self.bench.at_once(action)
                self.assertIs(caught.exception, error)
                self.check_start()

    def test_errors_of_the_package_within(self):
        def action():
            self.bench["x"] = Program("")
            self.bench["X"] = Program("")
        self.refused(BadName, "name", "X", self.bench.at_once, action)
        self.check_start()

        def undoing():
            self.bench["x"] = Program("")
            self.bench.undo()
            self.bench.undo()
        self.assertRaises(NothingToUndo, self.bench.at_once, undoing)
        self.check_start()

    def test_errors_that_an_action_catches(self):
        def action():
            self.bench["x"] = Program("")
            self.refused(NoName, "name", "q", self.bench.drop, "q")
            self.refused(TooMany, "most", 5, self.bench.chain, "y", ["a"] * 6)
            self.bench["y"] = Program("")
        self.bench.at_once(action)
        self.bench.undo()
        self.assertEqual(self.bench.written(), self.start)

    def test_one_within_another(self):
        def inner():
            self.bench["y"] = Program("turn")
            self.bench["z"] = Program("turn")
            return "inner"

        def failing():
            self.bench.drop("x")
            raise Fault("x")

        def outer():
            self.bench["x"] = Program("")
            self.assertEqual(self.bench.at_once(inner), "inner")
            self.assertEqual(list(self.bench), ["a", "b", "c", "x", "y", "z"])
            self.bench.undo()
            self.assertEqual(list(self.bench), ["a", "b", "c", "x"])
            self.assertRaises(Fault, self.bench.at_once, failing)
            self.assertEqual(list(self.bench), ["a", "b", "c", "x"])
            self.assertIs(self.bench.at_once(lambda: None), None)
            self.bench.redo()
            self.assertEqual(list(self.bench), ["a", "b", "c", "x", "y", "z"])
            return "outer"
        self.assertEqual(self.bench.at_once(outer), "outer")
        self.bench.undo()
        self.assertEqual(self.bench.written(), self.start)
        self.bench.redo()
        self.assertEqual(list(self.bench), ["a", "b", "c", "x", "y", "z"])

    def test_an_outer_error_takes_inner_deeds_back(self):
        def outer():
            self.bench.at_once(lambda: self.bench.drop("a"))
            raise Fault("x")
        self.assertRaises(Fault, self.bench.at_once, outer)
        self.check_start()

    def test_all_of_an_inner_deed_taken_back(self):
        def outer():
            self.bench.at_once(lambda: self.bench.drop("a"))
            self.bench.undo()
        self.bench.at_once(outer)
        self.check_start()


class GroupsTest(Case):
    """Point 45: groups and groups_at."""

    def bench_of(self, texts):
        bench = Bench()
        for number, text in enumerate(texts):
            bench["abcdefghijklmnopqrst"[number] * (1 + number % 3)] = Program(text)
        return bench

    def plain_groups(self, bench, sizes):
        groups = []
        for name in bench:
            for group in groups:
                if all(are_alike(bench[name].text, bench[group[0]].text, k) for k in sizes):
                    group.append(name)
                    break
            else:
                groups.append([name])
        return tuple(tuple(group) for group in groups)

    def check(self, texts):
        bench = self.bench_of(texts)
        written = bench.written()
        groups = bench.groups()
        self.assertEqual(groups, self.plain_groups(bench, range(1, 20)), texts)
        for k in range(1, 7):
            found = bench.groups_at(k)
            self.assertEqual(found, self.plain_groups(bench, [k]), (texts, k))
            for group in groups:
                self.assertTrue(any(set(group) <= set(wider) for wider in found))
        self.assertEqual([type(groups), *{type(group) for group in groups}], [tuple] * (2 if texts else 1))
        self.assertEqual(bench.written(), written)
        return bench

    def test_steps(self):
        random = Random(196)
        for _ in range(12):
            self.check([random.choice(STEPS) for _ in range(random.choice([0, 1, 4, 9]))])

    def test_programs_that_are_alike(self):
        random = Random(197)
        for _ in range(8):
            pairs = random.sample(REWRITTEN, 3)
            texts = [text for pair in pairs for text in pair] + ["turn", "near 1", "turn"]
            random.shuffle(texts)
            self.check(texts)

    def test_twenty_programs(self):
        self.check(["roll 1", "roll -1", "roll 2", "roll -2", "roll 3", "roll -3", "turn", "swap", "deal", "undeal", "",
                    "near 1", "sum 1", "near 2", "sum 2", "gather", "spread", "flip first", "flip last", "turn then turn"])

    def test_far_sizes(self):
        bench = self.bench_of(["turn then flip 0 of 2", "flip 0 of 2 then turn", "flip 1 of 2 then turn", "near 1", "near 1 then near 2",
                               "flip 0 of 2 then flip 1 of 2 then turn then flip 1 of 2"])
        # Which of these are alike at a size hangs on its rest by 2 alone, once it is above 3.
        for k in (K, 2 ** 80, 4, K - 1, 2 ** 80 + 1, 5):
            self.assertEqual(bench.groups_at(k), self.plain_groups(bench, [10 + k % 2]))
        self.assertEqual(bench.groups_at(K), (("a", "ccc", "fff"), ("bb",), ("d",), ("ee",)))
        self.assertEqual(bench.groups_at(K - 1), (("a", "bb", "fff"), ("ccc",), ("d",), ("ee",)))

    def test_bad_sizes_and_too_large(self):
        for texts in ([], ["turn"], [LARGE[0]], ["turn", LARGE[1], "swap"]):
            bench = self.bench_of(texts)
            for value in [*NO_INTEGERS, 0, -1, K + 1]:
                self.refused(BadSize, "size", value, bench.groups_at, value)
        for text in LARGE:
            for texts in ([text], ["turn", "turn", text], [text, text]):
                bench = self.bench_of(texts)
                self.refused(TooLarge, "most", 60, bench.groups)
                for k in (1, K):
                    self.refused(TooLarge, "most", 60, bench.groups_at, k)

    def test_what_is_told_is_new(self):
        bench = self.bench_of(["turn", "swap"])
        self.assertIsNot(bench.groups(), bench.groups())
        self.assertEqual(bench.groups_at(k=2), (("a", "bb"),))


if __name__ == "__main__":
    unittest.main()

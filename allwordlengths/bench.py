"""Benches: programs under names, whose changes can be taken back."""

from allwordlengths.checks import check_size
from allwordlengths.errors import (
    BadLine, BadName, BadStep, BadText, NoName, NothingToRedo, NothingToUndo, TooMany,
)
from allwordlengths.programs import Program
from allwordlengths.tables import machines_told
from allwordlengths.unlike import are_alike_at

MOST_NAMES = 20
MOST_LETTERS = 12
LETTERS = "abcdefghijklmnopqrstuvwxyz"


class Bench:
    """Programs under names, in an order."""

    def __init__(self):
        # A deed puts new values in the place of these two and does not change them, so those of before can be kept.
        self.names = []
        self.programs = {}
        # The names and programs of before each deed, and those of behind each deed that was taken back.
        self.past = []
        self.future = []

    @classmethod
    def read(cls, text):
        """The new bench with a text that written tells."""
        names, programs = read_lines(text)
        bench = cls()
        bench.names = names
        bench.programs = programs
        return bench

    def __setitem__(self, at, worth):
        if not is_name(at):
            raise BadName(at)
        put_program(self, at, worth)

    def __getitem__(self, at):
        if not has_name(self, at):
            raise NoName(at)
        return self.programs[at]

    def __contains__(self, x):
        return has_name(self, x)

    def __len__(self):
        return len(self.names)

    def __iter__(self):
        return iter(self.names)

    def __eq__(self, other):
        return isinstance(other, Bench) and self.written() == other.written()

    def drop(self, name):
        """Take a name out; its program is returned."""
        if not has_name(self, name):
            raise NoName(name)
        names = [other for other in self.names if other != name]
        program = self.programs[name]
        change(self, names, {other: self.programs[other] for other in names})
        return program

    def turn_back(self, name):
        """Put the inverse of the program of a name in its place."""
        if not has_name(self, name):
            raise NoName(name)
        put_program(self, name, ~self.programs[name])

    def chain(self, name, names):
        """Put under a name the program with the steps of the programs of other names, one after another."""
        if not is_name(name):
            raise BadName(name)
        steps = []
        for member in names:
            if not has_name(self, member):
                raise NoName(member)
            steps.extend(self.programs[member].steps)
        put_program(self, name, Program.of(steps))

    def written(self):
        """The text with a line for each name."""
        return "\n".join([f"{name}: {self.programs[name].text}" for name in self.names])

    def undo(self):
        """Take the last deed back that has not been taken back."""
        if not self.past:
            raise NothingToUndo()
        self.future.append((self.names, self.programs))
        self.names, self.programs = self.past.pop()

    def redo(self):
        """Do the last deed again that was taken back."""
        if not self.future:
            raise NothingToRedo()
        self.past.append((self.names, self.programs))
        self.names, self.programs = self.future.pop()

    def at_once(self, action):
        """Call a function without arguments and return what it returns; all its deeds are one deed of the bench."""
        names, programs, past, future = self.names, self.programs, self.past, self.future
        self.past = []
        self.future = []
        done = None
        try:
            result = action()
            done = True
        finally:
            if done is None:
                self.names, self.programs, self.past, self.future = names, programs, past, future
        if self.past:
            self.past = [*past, (names, programs)]
            self.future = []
        else:
            self.past = past
            self.future = future
        return result

    def groups(self):
        """The tuple of the tuples of names whose programs are alike at all sizes."""
        def same(one, other):
            return one == other

        return grouped(self, same)

    def groups_at(self, k):
        """The tuple of the tuples of names whose programs are alike at a size."""
        check_size(k)

        def same(one, other):
            return one == other or are_alike_at(one, other, k)

        return grouped(self, same)


def is_name(value):
    """Whether any value is a name."""
    if not isinstance(value, str) or not 1 <= len(value) <= MOST_LETTERS:
        return False
    return all([letter in LETTERS for letter in value])


def has_name(bench, value):
    """Whether any value is a name in a bench."""
    return isinstance(value, str) and value in bench.programs


def change(bench, names, programs):
    """The deed behind which a bench has these names and programs."""
    bench.past.append((bench.names, bench.programs))
    bench.names = names
    bench.programs = programs
    bench.future = []


def put_program(bench, name, program):
    """The deed that puts a program under a name."""
    names = list(bench.names)
    if name not in bench.programs:
        if len(names) >= MOST_NAMES:
            raise TooMany(MOST_NAMES)
        names.append(name)
    programs = dict(bench.programs)
    programs[name] = program
    change(bench, names, programs)


def read_lines(text):
    """The list of the names and the dict of the programs of a text."""
    if not isinstance(text, str):
        raise BadText(text)
    lines = [] if text == "" else text.split("\n")
    if len(lines) > MOST_NAMES:
        raise TooMany(MOST_NAMES)
    programs = {}
    for index, line in enumerate(lines):
        name, between, told = line.partition(": ")
        program = program_if_told(told)
        if between == "" or not is_name(name) or name in programs or program is None:
            raise BadLine(index + 1)
        programs[name] = program
    return list(programs), programs


def program_if_told(text):
    """The program with a text, or None if it is not the text of a program."""
    try:
        return Program(text)
    except (BadStep, TooMany):
        return None


def grouped(bench, same):
    """The tuple of the tuples of names whose programs, told by the pairs of their machines, are the same."""
    told = [(name, machines_told(bench.programs[name])) for name in bench.names]
    groups = []
    for name, machines in told:
        found = [group for group in groups if same(group[0][1], machines)]
        if found:
            found[0].append((name, machines))
        else:
            groups.append([(name, machines)])
    return tuple([tuple([own for own, _ in group]) for group in groups])

"""Least machines: functions of rows of letters, told by a few paths whose sums come behind all others."""

from allwordlengths.bits import bits_of
from allwordlengths.errors import BadLetter
from allwordlengths.rules import automaton_of
from allwordlengths.vectors import columns_of, parity, reached_from, summed


class Machine:
    """A least machine; callers do not make it."""

    def __init__(self, letters, paths, ends, rows):
        self.letters = letters
        self.paths = paths
        self.states = len(paths)
        self.ends = ends
        # For each letter the tuple of masks: of the new paths whose sum comes behind each one with this letter more.
        self.images = {letter: tuple([row[at] for row in rows]) for at, letter in enumerate(letters)}
        self._columns = None

    @property
    def columns(self):
        """For each letter a mask for each new path: of those with whose sums, by this letter more, it is reached."""
        if self._columns is None:
            self._columns = {letter: columns_of(self.images[letter], self.states) for letter in self.letters}
        return self._columns

    def __eq__(self, other):
        return isinstance(other, Machine) and parts_of(self) == parts_of(other)

    def moves(self, letter):
        """For each new path the indices of the new paths whose sum comes behind it with this letter more."""
        check_letter(self, letter)
        return tuple([tuple(bits_of(mask)) for mask in self.images[letter]])

    def value(self, path):
        """The value, 0 or 1, of a path."""
        return parity(reached(self, path) & ends_mask(self))

    def sum_for(self, path):
        """The indices of the new paths whose sum comes behind a path."""
        return tuple(bits_of(reached(self, path)))


def parts_of(machine):
    """All that tells a machine from others."""
    return machine.letters, machine.paths, machine.ends, [machine.images[letter] for letter in machine.letters]


def start_mask(machine):
    """The mask of the new paths whose sum comes behind the empty path; if there are any, it is the first one."""
    return min(machine.states, 1)


def ends_mask(machine):
    """The mask of the new paths that have the value 1."""
    return sum([end << number for number, end in enumerate(machine.ends)])


def check_letter(machine, letter):
    """Refuse any value that is not one of the letters of a machine."""
    if not isinstance(letter, str) or letter not in machine.letters:
        raise BadLetter(letter)


def reached(machine, path):
    """The mask of the new paths whose sum comes behind a path."""
    if not isinstance(path, str):
        raise BadLetter(path)
    letters = [] if path == "" else path.split(" ")
    for letter in letters:
        check_letter(machine, letter)
    return followed(machine, letters)


def followed(machine, letters):
    """The mask of the new paths whose sum comes behind the path of a list of letters."""
    mask = start_mask(machine)
    for letter in letters:
        mask = summed(machine.images[letter], mask)
    return mask


def letters_of(digits):
    """The tuple of the letters of so many digits, in their order."""
    letters = [""]
    for _ in range(digits):
        letters = [f"{letter}{digit}" for letter in letters for digit in "01"]
    return tuple(letters)


def least_machine(letters, parts, most):
    """The least machine of sums of states; it is refused if it has more than most states, which may be None.

    parts are a tuple (wide, start, ends, units): how many states there are, the masks of those whose sum comes behind
    the empty path and of those that have the value 1, and for each state a mask of wide bits for each letter, side by
    side: of the states behind which, with this letter more, a sum comes in which it stands.
    """
    wide, start, ends, units = parts
    many = len(letters)
    # A form is a mask of states whose values are added. What comes behind a path is told by the values that all forms
    # have behind it, so the paths are compared by these, and states that are sums of others do no harm.
    forms, behind = reached_from(ends, units, many, wide, None)
    first = sum([parity(form & start) << place for place, form in enumerate(forms)])
    steps = columns_of([row[at] for at in range(many) for row in behind], len(forms))
    vectors, rows = reached_from(first, steps, many, len(forms), most)
    # The first form asks for the values themselves.
    return Machine(letters, paths_of(letters, rows), tuple([vector & 1 for vector in vectors]), rows)


def paths_of(letters, rows):
    """The tuple of the new paths, for the masks of the new paths behind each of them with each letter more."""
    paths = [""] if rows else []
    for at, row in enumerate(rows):
        for letter, mask in zip(letters, row):
            if mask == 1 << len(paths):
                paths.append(letter if paths[at] == "" else f"{paths[at]} {letter}")
    return tuple(paths)


def machine_of_rules(letters, rules):
    """The least machine that tells, modulo 2, how many of some rules hold for numbers."""
    automaton = automaton_of(letters, rules)
    wide = automaton.states
    places = {letter: wide * at for at, letter in enumerate(letters)}
    units = [sum([1 << (places[letter] + state) for state, letter in ways]) for ways in automaton.ways]
    return least_machine(letters, (wide, automaton.start, automaton.ends, units), None)


def machine_of_sum(one, other):
    """The least machine of the sum of what two machines with the same letters tell."""
    wide = one.states + other.states
    start = start_mask(one) | (start_mask(other) << one.states)
    ends = ends_mask(one) | (ends_mask(other) << one.states)
    units = units_of(one, wide)
    units.extend([unit << one.states for unit in units_of(other, wide)])
    return least_machine(one.letters, (wide, start, ends, units), None)


def units_of(machine, wide):
    """For each new path of a machine its columns for all letters, side by side, each in so many bits."""
    columns = [machine.columns[letter] for letter in machine.letters]
    return [sum([column[at] << (wide * place) for place, column in enumerate(columns)]) for at in range(machine.states)]

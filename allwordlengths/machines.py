"""Least machines: functions of rows of letters, told by a few paths whose sums come behind all others."""

from allwordlengths.bits import bits_of
from allwordlengths.errors import BadLetter, TooLarge
from allwordlengths.vectors import kept, parity, sifted, summed, transposed


class Machine:
    """A least machine; callers do not make it."""

    def __init__(self, letters, paths, ends, images):
        self.letters = letters
        self.paths = paths
        self.states = len(paths)
        self.ends = ends
        # For each letter the tuple of masks: of the new paths whose sum comes behind each one with this letter more.
        self.images = images

    def __eq__(self, other):
        return isinstance(other, Machine) and parts_of(self) == parts_of(other)

    def moves(self, letter):
        """For each new path the indices of the new paths whose sum comes behind it with this letter more."""
        check_letter(self, letter)
        return tuple([tuple(bits_of(mask)) for mask in self.images[letter]])

    def value(self, path):
        """The value, 0 or 1, of a path."""
        return parity(reached(self, path) & ends_mask(self))

    def sum_for(self, path):
        """The indices of the new paths whose sum comes behind a path."""
        return tuple(bits_of(reached(self, path)))


def parts_of(machine):
    """All that tells a machine from others."""
    return machine.letters, machine.paths, machine.ends, [machine.images[letter] for letter in machine.letters]


def start_mask(machine):
    """The mask of the new paths whose sum comes behind the empty path; if there are any, it is the first one."""
    return min(machine.states, 1)


def ends_mask(machine):
    """The mask of the new paths that have the value 1."""
    return sum([end << number for number, end in enumerate(machine.ends)])


def check_letter(machine, letter):
    """Refuse any value that is not one of the letters of a machine."""
    if not isinstance(letter, str) or letter not in machine.letters:
        raise BadLetter(letter)


def reached(machine, path):
    """The mask of the new paths whose sum comes behind a path."""
    if not isinstance(path, str):
        raise BadLetter(path)
    letters = [] if path == "" else path.split(" ")
    for letter in letters:
        check_letter(machine, letter)
    return followed(machine, letters)


def followed(machine, letters):
    """The mask of the new paths whose sum comes behind the path of a list of letters."""
    mask = start_mask(machine)
    for letter in letters:
        mask = summed(machine.images[letter], mask)
    return mask


def letters_of(digits):
    """The tuple of the letters of so many digits, in their order."""
    letters = [""]
    for _ in range(digits):
        letters = [f"{letter}{digit}" for letter in letters for digit in "01"]
    return tuple(letters)


def paths_from(letters, start, follow):
    """The vectors that are not sums of those of earlier paths, their paths, and what comes behind them.

    This is told by a list for each vector, with a mask for each letter: of the vectors whose sum comes behind it.
    """
    known = {}
    vectors = []
    paths = []
    images = []
    if kept(known, vectors, start) > 0:
        paths.append("")
    while len(images) < len(vectors):
        path = paths[len(images)]
        reached_next = follow(vectors[len(images)])
        masks = []
        for letter, vector in zip(letters, reached_next):
            masks.append(kept(known, vectors, vector))
            if len(vectors) > len(paths):
                paths.append(letter if path == "" else f"{path} {letter}")
        images.append(masks)
    return vectors, paths, images


def forms_behind(columns, ends, most):
    """The forms that tell all values behind vectors; none of them is a sum of others.

    A form is the mask of the vectors for which it has the value 1. ends is the form for the values of the vectors, and
    columns has for each letter the columns of the masks that paths_from tells.
    """
    known = {}
    forms = []
    kept(known, forms, ends)
    at = 0
    while at < len(forms):
        for letter_columns in columns:
            kept(known, forms, summed(letter_columns, forms[at]))
        if len(forms) > most:
            raise TooLarge(most)
        at = at + 1
    return forms


def least_machine(letters, start, follow, value, most):
    """The least machine of vectors; it is refused if it has more than most states.

    start is the vector of the empty path. follow tells the list of what comes behind a vector, for each letter, and
    value its value; of a sum of vectors they tell the sums.
    """
    vectors, paths, images = paths_from(letters, start, follow)
    ends = [value(vector) for vector in vectors]
    ends_asked = sum([end << number for number, end in enumerate(ends)])
    columns = [transposed([masks[at] for masks in images], len(vectors)) for at in range(len(letters))]
    # What comes behind a path is told by the values of all forms, so paths are compared by these.
    seen = transposed(forms_behind(columns, ends_asked, most), len(vectors))
    known = {}
    chosen = []
    new = []
    for number, values in enumerate(seen):
        kept(known, chosen, values)
        if len(chosen) > len(new):
            new.append(number)
    told = {}
    for at, letter in enumerate(letters):
        told[letter] = tuple([sifted(known, summed(seen, images[number][at]))[1] for number in new])
    return Machine(letters, tuple([paths[number] for number in new]), tuple([ends[number] for number in new]), told)

"""Programs that are told by what they make of words: which can still be, what to ask next, and asking."""

from allwordlengths.checks import check_number, is_word
from allwordlengths.digitrows import ALL_ROWS, IN_BOTH, joined_rows, least_rows
from allwordlengths.errors import BadLook, BadStep, TooMany
from allwordlengths.sizes import all_sizes, sizes_told
from allwordlengths.steps import step_parts
from allwordlengths.tables import machines_told
from allwordlengths.trying import does_all, machines_if_told, programs_of
from allwordlengths.unlike import alike_rows, first_difference

MOST_TEXTS = 4
MOST_STEPS = 2


def fits(program, looks):
    """Whether a program fits each look of a list or tuple."""
    check_looks(looks)
    return does_all(program, looks)


def candidates(steps, most, looks):
    """The tuple of the programs of at most most steps, each of a list of texts, that fit each look.

    Of programs that are alike at all sizes it has only the first one.
    """
    return tuple([program for program, _ in told_apart(steps, most, looks)])


def agreed_sizes(programs):
    """The set of the sizes at which all programs of a list or tuple are alike."""
    if len(programs) < 2:
        return all_sizes()
    machines = [machines_told(program) for program in programs]
    rows = ALL_ROWS
    for other in machines[1:]:
        rows = least_rows(joined_rows(rows, alike_rows(machines[0], other), IN_BOTH), None)
    return sizes_told(rows)


def question(programs):
    """The word of which the first of some programs and at least one other one make unlike results, or None."""
    if len(programs) < 2:
        return None
    return asked_of([machines_told(program) for program in programs])


def learned(box, steps, most):
    """The pair of the program that is left when a box has been asked, or None, and of the tuple of the looks made."""
    possible = told_apart(steps, most, ())
    looks = []
    while len(possible) > 1:
        word = asked_of([machines for _, machines in possible])
        result = box(word)
        if not is_word(result) or len(result) != len(word):
            raise BadLook(len(looks))
        look = (word, tuple(list(result)))
        looks.append(look)
        possible = [(program, machines) for program, machines in possible if does_all(program, [look])]
    return (possible[0][0] if possible else None), tuple(looks)


def check_looks(looks):
    """Refuse a list or tuple with a member, any value, that is not a look."""
    for index, look in enumerate(looks):
        if not is_look(look):
            raise BadLook(index)


def is_look(value):
    """Whether any value is a pair of words of bits of one size."""
    if not isinstance(value, (list, tuple)) or len(value) != 2:
        return False
    given, result = value
    return is_word(given) and is_word(result) and len(given) == len(result)


def told_apart(steps, most, looks):
    """The list of the pairs of a candidate and of the pair of its machines."""
    if len(steps) > MOST_TEXTS:
        raise TooMany(MOST_TEXTS)
    for index, text in enumerate(steps):
        if step_parts(text) is None or text in steps[:index]:
            raise BadStep(index)
    check_number(most, 0, MOST_STEPS)
    check_looks(looks)
    found = []
    for program in programs_of(steps, most):
        if does_all(program, looks):
            machines = machines_if_told(program)
            if machines is not None and not any([machines == other for _, other in found]):
                found.append((program, machines))
    return found


def asked_of(machines):
    """The word of question for programs that are told by the pairs of their machines; there is at least one."""
    found = [first_difference(machines[0], other) for other in machines[1:]]
    # A place below all others stands for None.
    keys = [(told[0], told[1], -1 if told[2] is None else told[2]) for told in found if told is not None]
    if not keys:
        return None
    k, _, j = min(keys)
    return tuple([1 if place == j else 0 for place in range(k)])

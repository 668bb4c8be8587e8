"""The shortest program that does the same as another one with only steps of a list."""

from allwordlengths.checks import check_number
from allwordlengths.errors import BadStep, TooMany
from allwordlengths.steps import step_parts
from allwordlengths.tables import machines_told
from allwordlengths.trying import does_all, machines_if_told, programs_of

MOST_TEXTS = 6
MOST_STEPS = 3

# Words without a pattern, as texts of their bits.
PROBES = ("1", "10", "01101", "0000000", "110100101", "0110100111010", "10011101000110101100111")


def shortest(program, steps, most):
    """The shortest program with at most most steps, each of a list of texts, that is alike at all sizes, or None."""
    if len(steps) > MOST_TEXTS:
        raise TooMany(MOST_TEXTS)
    for index, text in enumerate(steps):
        if step_parts(text) is None:
            raise BadStep(index)
    check_number(most, 0, MOST_STEPS)
    wanted = machines_told(program)
    # Words are done much sooner than machines are made, and nearly all programs do something else to one of them.
    words = [[int(sign) for sign in text] for text in PROBES]
    looks = [(word, program.done(word)) for word in words]
    for tried in programs_of(steps, most):
        if does_all(tried, looks) and machines_if_told(tried) == wanted:
            return tried
    return None

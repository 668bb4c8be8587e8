"""Programs that are made of steps of a list, and words that they are tried with.

A look is a pair of words of bits: a given one and a result.
"""

from allwordlengths.errors import TooLarge
from allwordlengths.programs import MOST_DEALS, Program
from allwordlengths.tables import machines_told


def programs_of(texts, most):
    """The list of all programs of at most most steps with these texts: shorter ones first, then by the indices."""
    found = []
    rows = [[]]
    for _ in range(most + 1):
        found.extend([row for row in rows if row.count("deal") + row.count("undeal") <= MOST_DEALS])
        rows = [[*row, text] for row in rows for text in texts]
    return [Program(" then ".join(row)) for row in found]


def machines_if_told(program):
    """The pair of the machines of T and of F of a program, or None if Table refuses it."""
    try:
        return machines_told(program)
    except TooLarge:
        return None


def does_all(program, looks):
    """Whether a program makes the result of each look of its given word."""
    for given, result in looks:
        if program.done(given) != tuple(result):
            return False
    return True

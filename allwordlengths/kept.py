"""At which sizes the sum of the bits at some places is the same behind a program as ahead of it."""

from allwordlengths.chains import FLIP_LETTERS, chained
from allwordlengths.digitrows import IN_BOTH, IN_FIRST, joined_rows
from allwordlengths.errors import BadChoice
from allwordlengths.machines import machine_of_rules, machine_of_sum
from allwordlengths.silent import silent_rows
from allwordlengths.sizes import sizes_told
from allwordlengths.steprules import choice_rules
from allwordlengths.steps import RESTS
from allwordlengths.tables import Table


def kept_sizes(program, choice):
    """The set of the sizes at which the sum of a choice of places stays the same, for each word."""
    same, unturned = sum_rows(program, choice)
    return sizes_told(joined_rows(same, unturned, IN_BOTH))


def turned_sizes(program, choice):
    """The set of the sizes at which the sum of a choice of places becomes the other one, for each word."""
    same, unturned = sum_rows(program, choice)
    return sizes_told(joined_rows(same, unturned, IN_FIRST))


def sum_rows(program, choice):
    """The rows of the sizes at which the sum of a choice hangs on just the places of the choice, and has the flip 0."""
    if not isinstance(choice, str) or (choice not in ("all", "first", "last") and choice not in RESTS):
        raise BadChoice(choice)
    table = Table(program)
    rules = choice_rules(choice)
    # What a machine of a choice tells is added up over all places behind the program.
    hung = chained(rules, FLIP_LETTERS, table.machine, None)
    flips = chained(rules, FLIP_LETTERS, table.flip_machine, None)
    return silent_rows(machine_of_sum(hung, machine_of_rules(FLIP_LETTERS, rules))), silent_rows(flips)

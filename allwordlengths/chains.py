"""The machines of steps that are done one after another."""

from allwordlengths.bits import bits_of
from allwordlengths.machines import ends_mask, least_machine, letters_of, machine_of_rules, machine_of_sum, start_mask
from allwordlengths.rules import automaton_of
from allwordlengths.steprules import STAYS, flip_rules, table_rules
from allwordlengths.steps import FLIPS

MOST_STATES = 60
LETTERS = ("000", "001", "010", "011", "100", "101", "110", "111")
FLIP_LETTERS = ("00", "01", "10", "11")


def chained(rules, letters, ahead, most):
    """The least machine of the sums of own(i, m, k) * ahead(m, j, k) over all m; refused if it has too many states.

    own tells, modulo 2, how many rules hold; letters are those of the rules. Either of i and j, or both, may be
    missing. A state of the chain is a state of own and one of ahead.
    """
    own = automaton_of(letters, rules)
    tails = letters_of(len(ahead.letters[0]) - 1)
    wide = ahead.states
    whole = own.states * wide
    packs = {pair: packed(ahead, tails, pair, whole) for pair in FLIP_LETTERS}
    # Where the columns stand for a letter of own: behind those for lower digits of i.
    places = {letter: number_of(letter[:-2]) * len(tails) * whole for letter in letters}
    units = []
    for ways in own.ways:
        found = [(packs[letter[-2:]], places[letter] + state * wide) for state, letter in ways]
        units.extend([unit_of(found, at) for at in range(wide)])
    start = spread(own.start, wide) * start_mask(ahead)
    ends = spread(own.ends, wide) * ends_mask(ahead)
    names = letters_of(len(letters[0]) + len(tails[0]) - 2)
    return least_machine(names, (whole, start, ends, units), most)


def unit_of(packs, at):
    """The sum of the members with an index of lists of packed columns, each at its own place."""
    total = 0
    for pack, place in packs:
        total = total ^ (pack[at] << place)
    return total


def packed(ahead, tails, pair, whole):
    """For each state of ahead its columns for the letters with a pair of digits of m and k, side by side.

    Each has as many bits as the chain has states; they stand in the order of tails, the letters of j and k.
    """
    chosen = [(ahead.columns[f"{pair[0]}{tail}"], whole * at) for at, tail in enumerate(tails) if tail[-1] == pair[1]]
    return [sum([column[state] << place for column, place in chosen]) for state in range(ahead.states)]


def number_of(text):
    """The number with these digits to the base 2, the highest one first; 0 without digits."""
    return 0 if text == "" else int(text, 2)


def spread(mask, wide):
    """The bits of a mask, each `wide` places away from the next."""
    return sum([1 << (wide * place) for place in bits_of(mask)])


def first_table():
    """The machine of T of the program without steps."""
    return machine_of_rules(LETTERS, [STAYS])


def table_behind(step, table):
    """The machine of T if a step stands behind others; refused if it has too many states."""
    if step.kind in FLIPS:
        return table
    return chained(table_rules(step), LETTERS, table, MOST_STATES)


def flips_behind(step, flips):
    """The machine of F if a step stands behind others; no bound is told for it."""
    if step.kind in FLIPS:
        return machine_of_sum(machine_of_rules(FLIP_LETTERS, flip_rules(step)), flips)
    return chained(table_rules(step), LETTERS, flips, None) if flips.states > 0 else flips


def machines_of(steps):
    """The machine of T and that of F for a list or tuple of steps; refused if one of T has too many states."""
    table = first_table()
    flips = machine_of_rules(FLIP_LETTERS, [])
    for step in steps:
        table = table_behind(step, table)
        flips = flips_behind(step, flips)
    return table, flips

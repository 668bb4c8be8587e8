"""The rules of each step: on which bits a bit of its result hangs, and where it adds 1."""

from allwordlengths.rules import is_below, is_multiple, is_zero
from allwordlengths.steps import RESTS

# The tests about i, j and k in this order whether i is a place and whether j is i, and the rule of a bit that stays.
PLACE = (("below", (1, 0, -1)), 0)
SAME = (("zero", (1, -1, 0)), 0)
STAYS = ((("zero", (1, -1, 0)), 0), (("below", (1, 0, -1)), 0))


def table_rules(step):
    """The rules about i, j and k of which an odd number holds if bit i of the result of a step hangs on bit j.

    They are told as if j were a place: what they tell of other numbers j does not count behind other steps.
    """
    if step.kind == "turn":
        return [(is_zero((1, 1, -1), 1),)]
    if step.kind == "roll":
        return roll_rules(step.by)
    if step.kind == "deal":
        return deal_rules(2, -1, ())
    if step.kind == "undeal":
        return deal_rules(-1, 2, (PLACE,))
    if step.kind == "swap":
        return swap_rules()
    if step.kind == "near":
        return [(SAME,), (is_zero((1, -1, 0), step.by), *beyond_tests(step.by), *chosen_tests(step.rest))]
    if step.kind == "sum":
        return sum_rules(step.by, chosen_tests(step.rest))
    if step.kind == "gather":
        return [(SAME,), (is_zero((1, 0, 0), 0), is_below((0, -1, 0), 0))]
    if step.kind == "spread":
        return [(SAME,), (is_below((-1, 0, 0), 0), is_zero((0, 1, 0), 0), PLACE)]
    return [(SAME,)]


def flip_rules(step):
    """The rules about i and k of which an odd number holds if a flip adds 1 to the bit i."""
    return choice_rules(step.text[len("flip "):])


def choice_rules(choice):
    """The rules about i and k of which an odd number holds if i is a place of a choice: all, first, last or R of M."""
    place = is_below((1, -1), 0)
    if choice == "all":
        return [(place,)]
    if choice == "first":
        return [(place, is_zero((1, 0), 0))]
    if choice == "last":
        return [(is_zero((1, -1), 1),)]
    at, of = RESTS[choice]
    return [(place, is_multiple((1, 0), -at, of))]


def chosen_tests(rest):
    """The tests whether i is one of the places R of M; without the pair (R, M) all are."""
    return () if rest is None else (is_multiple((1, 0, 0), -rest[0], rest[1]),)


def beyond_tests(by):
    """The tests that i needs beside j, which is at least by further on: a place ahead of a place is one itself."""
    return () if by > 0 else (PLACE,)


def roll_rules(by):
    """The rules of `roll by`."""
    # The remainder of i - by is reached by adding k, or taking it away, at most 3 times, even if k is 1.
    first = 0 if by > 0 else -3
    return [(PLACE, is_zero((1, -1, lap), -by)) for lap in range(first, first + 4)]


def deal_rules(count_i, count_j, tests):
    """The rules of `deal`, or, with i and j exchanged, of `undeal`."""
    odd = is_multiple((0, 0, 1), 1, 2)
    even = is_multiple((0, 0, 1), 0, 2)
    return [
        (is_zero((count_i, count_j, 0), 0), *tests),
        (is_zero((count_i, count_j, -1), 0), odd, *tests),
        (is_zero((count_i, count_j, -1), 1), even, *tests),
    ]


def swap_rules():
    """The rules of `swap`."""
    even = is_multiple((1, 0, 0), 0, 2)
    odd = is_multiple((1, 0, 0), 1, 2)
    return [
        (is_zero((1, -1, 0), 1), even),
        (is_zero((1, -1, 0), -1), odd, PLACE),
        (SAME, even, is_zero((1, 0, -1), 1)),
    ]


def sum_rules(by, chosen):
    """The rules of `sum by` at the places i for which all chosen tests hold; the other bits stay."""
    ahead = is_below((-1, 1, 0), 0) if by < 0 else is_below((1, -1, 0), 0)
    return [(SAME,), (ahead, is_multiple((1, -1, 0), 0, abs(by)), *beyond_tests(by), *chosen)]

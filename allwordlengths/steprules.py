"""The rules of each step: on which bits a bit of its result hangs, and where it adds 1."""

from allwordlengths.rules import is_below, is_multiple, is_zero

# Tests about i, j and k in this order: whether i is a place, whether j is one, whether both are the same; and the rule
# of a bit that stays.
PLACE_I = ("below", (1, 0, -1), 0, 1)
PLACE_J = ("below", (0, 1, -1), 0, 1)
SAME = ("zero", (1, -1, 0), 0, 1)
STAYS = (("zero", (1, -1, 0), 0, 1), ("below", (1, 0, -1), 0, 1))


def table_rules(step):
    """The rules about i, j and k of which an odd number holds if bit i of the result of a step hangs on bit j."""
    if step.kind == "turn":
        return [(is_zero((1, 1, -1), 1),)]
    if step.kind == "roll":
        return roll_rules(step.by)
    if step.kind == "deal":
        return deal_rules(2, -1, PLACE_J)
    if step.kind == "undeal":
        return deal_rules(-1, 2, PLACE_I)
    if step.kind == "swap":
        return swap_rules()
    if step.kind == "near":
        return [STAYS, (PLACE_I, PLACE_J, is_zero((1, -1, 0), step.by), *chosen_tests(step.rest))]
    if step.kind == "sum":
        return sum_rules(step.by, chosen_tests(step.rest))
    if step.kind == "gather":
        return [STAYS, (is_zero((1, 0, 0), 0), is_below((0, -1, 0), 0), PLACE_J)]
    if step.kind == "spread":
        return [STAYS, (is_below((-1, 0, 0), 0), is_zero((0, 1, 0), 0), PLACE_I)]
    return [STAYS]


def flip_rules(step):
    """The rules about i and k of which an odd number holds if a step adds 1 to the bit i."""
    if step.kind == "flip":
        at, of = step.rest
        return [(is_below((1, -1), 0), is_multiple((1, 0), -at, of))]
    if step.kind == "flip first":
        return [(is_below((1, -1), 0), is_zero((1, 0), 0))]
    if step.kind == "flip last":
        return [(is_zero((1, -1), 1),)]
    return []


def chosen_tests(rest):
    """The tests whether i is one of the places R of M; without the pair (R, M) all are."""
    return () if rest is None else (is_multiple((1, 0, 0), -rest[0], rest[1]),)


def roll_rules(by):
    """The rules of `roll by`."""
    # The remainder of i - by is reached by adding k, or taking it away, at most 3 times, even if k is 1.
    first = 0 if by > 0 else -3
    return [(PLACE_I, PLACE_J, is_zero((1, -1, lap), -by)) for lap in range(first, first + 4)]


def deal_rules(count_i, count_j, place):
    """The rules of `deal`, or, with i and j exchanged, of `undeal`."""
    odd = is_multiple((0, 0, 1), 1, 2)
    even = is_multiple((0, 0, 1), 0, 2)
    return [
        (is_zero((count_i, count_j, 0), 0), place),
        (is_zero((count_i, count_j, -1), 0), place, odd),
        (is_zero((count_i, count_j, -1), 1), place, even),
    ]


def swap_rules():
    """The rules of `swap`."""
    even = is_multiple((1, 0, 0), 0, 2)
    odd = is_multiple((1, 0, 0), 1, 2)
    return [
        (is_zero((1, -1, 0), 1), even, PLACE_J),
        (is_zero((1, -1, 0), -1), odd, PLACE_I),
        (SAME, even, is_zero((1, 0, -1), 1)),
    ]


def sum_rules(by, chosen):
    """The rules of `sum by` at the places i for which all chosen tests hold; the other bits stay."""
    ahead = is_below((-1, 1, 0), 0) if by < 0 else is_below((1, -1, 0), 0)
    return [STAYS, (PLACE_I, PLACE_J, ahead, is_multiple((1, -1, 0), 0, abs(by)), *chosen)]

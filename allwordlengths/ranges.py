"""Which numbers of a range are in a set that is told by rows of digits (digitrows.py), and how many.

Ends are a list that tells for each row whether the numbers that lead to it count. Zeros behind the digits of a number
change nothing, so numbers are read as if all had the same many digits, and found from the highest digit on.
"""


def ends_of(rows, inside):
    """The ends of the numbers with an inside."""
    return [row[2] == inside for row in rows]


def ends_ahead(rows, ends, digit):
    """The ends for what stands ahead of a digit."""
    return [ends[row[digit]] for row in rows]


def is_met(ends, reached):
    """Whether one of the rows that are reached counts."""
    return any([ends[at] for at in reached])


def rows_reached(rows, many):
    """For each number of digits, from 0 to many, the list of the rows that are reached by so many digits."""
    reached = [[0]]
    for _ in range(many):
        reached.append(sorted({rows[at][digit] for at in reached[-1] for digit in (0, 1)}))
    return reached


def nearest(rows, inside, edge, many, digit):
    """The number of at most many digits, with an inside, that is nearest to edge and not beyond it; None without one.

    With the digit 0 it is the least number that is not below edge, with the digit 1 the greatest that is not above it.
    """
    reached = rows_reached(rows, many)
    ends = ends_of(rows, inside)
    found = None
    for place in reversed(range(many)):
        own = (edge >> place) & 1
        if own == digit:
            others = ends_ahead(rows, ends, 1 - digit)
            if is_met(others, reached[place]):
                # A number that is equal to edge down to a lower place is nearer, so the last one found counts.
                found = ((edge >> place) ^ 1, others, place)
        ends = ends_ahead(rows, ends, own)
    if ends[0]:
        return edge
    if found is None:
        return None
    value, ends, places = found
    for place in reversed(range(places)):
        likely = ends_ahead(rows, ends, digit)
        own = digit if is_met(likely, reached[place]) else 1 - digit
        ends = likely if own == digit else ends_ahead(rows, ends, own)
        value = 2 * value + own
    return value


def least_from(rows, inside, low):
    """The least number with an inside that is not below low, or None."""
    many = low.bit_length()
    found = nearest(rows, inside, low, many, 0)
    if found is not None:
        return found
    # Among more digits behind those of low than there are rows, one row is met twice, and what is between can go.
    return nearest(rows, inside, 1 << many, many + len(rows) + 1, 0)


def has_no_end(rows, inside):
    """Whether endlessly many numbers have an inside."""
    # A number with as many digits as there are rows meets a row twice; what is between can stand more often, or go.
    many = len(rows)
    return nearest(rows, inside, 1 << (many - 1), 2 * many, 0) is not None


def greatest_of(rows, inside):
    """The greatest number with an inside, or None if there is none or if there are endlessly many."""
    if has_no_end(rows, inside):
        return None
    many = len(rows)
    return nearest(rows, inside, (1 << many) - 1, many, 1)


def numbers_between(rows, low, high):
    """The list of the numbers from low to high that have the inside 1, ascending."""
    known = [(0, ends_of(rows, 1))]
    for place in reversed(range(high.bit_length())):
        longer = [(2 * value + digit, ends_ahead(rows, ends, digit)) for value, ends in known for digit in (0, 1)]
        known = [(value, ends) for value, ends in longer if (low >> place) <= value <= (high >> place)]
    return [value for value, ends in known if ends[0]]


def many_upto(rows, high):
    """How many numbers from 0 to high have the inside 1."""
    # How many numbers of so many digits reach each row: those that are not above the same many digits of high, and
    # those that are above them.
    within = [0] * len(rows)
    beyond = [0] * len(rows)
    within[0] = 1
    for place in range(high.bit_length()):
        own = (high >> place) & 1
        within_next = [0] * len(rows)
        beyond_next = [0] * len(rows)
        for at, row in enumerate(rows):
            for digit in (0, 1):
                target = row[digit]
                if digit < own:
                    within_next[target] = within_next[target] + within[at] + beyond[at]
                elif digit > own:
                    beyond_next[target] = beyond_next[target] + within[at] + beyond[at]
                else:
                    within_next[target] = within_next[target] + within[at]
                    beyond_next[target] = beyond_next[target] + beyond[at]
        within = within_next
        beyond = beyond_next
    return sum([many for many, row in zip(within, rows) if row[2] == 1])

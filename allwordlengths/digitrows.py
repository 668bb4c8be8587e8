"""Sets of numbers told by rows (to_zero, to_one, inside), which are read by digits, the lowest one first.

Reading begins at the first row. The digits 0 and 1 lead to the rows with the indices to_zero and to_one; inside is 1 if
the number is in the set, and 0 otherwise. Where nothing else is said, a number with more zeros behind its digits has
the same inside, the number 0 has the inside 0, and each row is reached by some digits.
"""

from allwordlengths.classes import classes_of
from allwordlengths.errors import TooMany

# What | & - ^ make of the insides 0 and 0, 0 and 1, 1 and 0, 1 and 1 of two sets.
IN_EITHER = (0, 1, 1, 1)
IN_BOTH = (0, 0, 0, 1)
IN_FIRST = (0, 0, 1, 0)
IN_ONE = (0, 1, 1, 0)

# The rows of no numbers, and of all numbers from 1 on.
NO_ROWS = ((0, 0, 0),)
ALL_ROWS = ((0, 1, 0), (1, 1, 1))


def rows_of_keys(start, step, inside, most):
    """The rows for keys: start, step(key, digit) for the next key, and whether inside(key) is True.

    Refused if there are more than most keys; if most is None, there may be any number of them. Zeros and the number 0
    are as the functions tell it.
    """
    keys = [start]
    places = {start: 0}
    rows = []
    while len(rows) < len(keys):
        key = keys[len(rows)]
        targets = []
        for digit in (0, 1):
            found = step(key, digit)
            target = places.setdefault(found, len(keys))
            if target == len(keys):
                keys.append(found)
            targets.append(target)
        if most is not None and len(keys) > most:
            raise TooMany(most)
        rows.append((targets[0], targets[1], 1 if inside(key) else 0))
    return rows


def settled_rows(rows):
    """The rows for reading any rows up to the highest digit 1 and no further."""
    # Beside the row that is reached stands the inside behind the highest digit 1; ahead of all of them it is 0.
    def step(key, digit):
        at, inside = key
        return (rows[at][0], inside) if digit == 0 else (rows[at][1], rows[rows[at][1]][2])

    def is_inside(key):
        return key[1] == 1

    return rows_of_keys((0, 0), step, is_inside, None)


def joined_rows(one, other, insides):
    """The rows for two lists of rows that are read at once; insides is one of the tuples IN_EITHER to IN_ONE."""
    return joined_from(one, other, 0, insides)


def joined_from(one, other, start, insides):
    """The same if the second ones are read from the row with an index on."""
    firsts = [0]
    seconds = [start]
    wide = len(other)
    places = {start: 0}
    found = []
    while len(found) < len(firsts):
        zero, own, inside = one[firsts[len(found)]]
        zero_too, own_too, inside_too = other[seconds[len(found)]]
        # A pair of rows is told by one number.
        to_zero = places.setdefault(zero * wide + zero_too, len(firsts))
        if to_zero == len(firsts):
            firsts.append(zero)
            seconds.append(zero_too)
        to_one = places.setdefault(own * wide + own_too, len(firsts))
        if to_one == len(firsts):
            firsts.append(own)
            seconds.append(own_too)
        found.append((to_zero, to_one, insides[2 * inside + inside_too]))
    return found


def positive_rows(rows, start):
    """The rows for reading from the row with an index on, where the number 0 may be inside; here it is outside."""
    if start == 0 and rows[0][2] == 0:
        return rows
    return joined_from(ALL_ROWS, rows, start, IN_BOTH)


def row_behind(rows, start, number):
    """The index of the row that is reached from one by the digits of a number."""
    at = start
    text = f"{number:b}"
    for sign in text[::-1]:
        at = rows[at][int(sign)]
    return at


def rows_of_shift(rows, many):
    """The rows of the numbers k + many for the numbers k of some rows; it may have the number 0."""
    # Of each number the digits of k are read. What is carried has still to be added to the digits that follow.
    places = {(0, -many): 0}
    keys = [(0, -many)]
    found = []
    while len(found) < len(keys):
        at, carry = keys[len(found)]
        zero, one, inside = rows[at]
        if carry % 2 == 0:
            ways = ((zero, carry // 2), (one, carry // 2))
        else:
            ways = ((one, carry // 2), (zero, carry // 2 + 1))
        targets = []
        for way in ways:
            target = places.setdefault(way, len(keys))
            if target == len(keys):
                keys.append(way)
            targets.append(target)
        if carry != 0:
            inside = rows[row_behind(rows, at, carry)][2] if carry > 0 else 0
        found.append((targets[0], targets[1], inside))
    return found


def least_rows(rows, most):
    """The tuple of rows for the classes of rows of digits that are alike; refused if there are more than most.

    If most is None, there may be any number of them.
    """
    classes = classes_of(rows, most)
    members = [0]
    places = {classes[0]: 0}
    found = []
    while len(found) < len(members):
        zero, one, inside = rows[members[len(found)]]
        to_zero = places.setdefault(classes[zero], len(members))
        if to_zero == len(members):
            members.append(zero)
        to_one = places.setdefault(classes[one], len(members))
        if to_one == len(members):
            members.append(one)
        found.append((to_zero, to_one, inside))
        if most is not None and len(members) > most:
            raise TooMany(most)
    return tuple(found)

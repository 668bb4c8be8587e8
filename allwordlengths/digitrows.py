"""Sets of numbers told by rows (to_zero, to_one, inside), which are read by digits, the lowest one first.

Reading begins at the first row. The digits 0 and 1 lead to the rows with the indices to_zero and to_one; inside is 1 if
the number is in the set, and 0 otherwise. Where nothing else is said, a number with more zeros behind its digits has
the same inside, and the number 0 has the inside 0.
"""

from allwordlengths.errors import TooMany

# What | & - ^ make of the insides 0 and 0, 0 and 1, 1 and 0, 1 and 1 of two sets.
IN_EITHER = (0, 1, 1, 1)
IN_BOTH = (0, 0, 0, 1)
IN_FIRST = (0, 0, 1, 0)
IN_ONE = (0, 1, 1, 0)


def rows_of_keys(start, step, inside, most):
    """The rows for keys: start, step(key, digit) for the next key, and whether inside(key) is True.

    Refused if there are more than most keys; if most is None, there may be any number of them.
    """
    keys = [start]
    places = {start: 0}
    rows = []
    while len(rows) < len(keys):
        key = keys[len(rows)]
        targets = []
        for digit in (0, 1):
            found = step(key, digit)
            if found not in places:
                places[found] = len(keys)
                keys.append(found)
            targets.append(places[found])
        if most is not None and len(keys) > most:
            raise TooMany(most)
        rows.append((targets[0], targets[1], 1 if inside(key) else 0))
    return rows


def settled_rows(rows, start):
    """The rows for reading any rows, from the one with an index on, up to the highest digit 1 and no further."""
    # Beside the row that is reached stands the inside behind the highest digit 1; ahead of all of them it is 0.
    pairs = [(start, 0)]
    places = {(start, 0): 0}
    found = []
    while len(found) < len(pairs):
        at, inside = pairs[len(found)]
        zero, one, _ = rows[at]
        targets = []
        for pair in ((zero, inside), (one, rows[one][2])):
            if pair not in places:
                places[pair] = len(pairs)
                pairs.append(pair)
            targets.append(places[pair])
        found.append((targets[0], targets[1], inside))
    return found


def joined_rows(one, other, insides):
    """The rows for two lists of rows that are read at once; insides is one of the tuples IN_EITHER to IN_ONE."""
    pairs = [(0, 0)]
    places = {(0, 0): 0}
    found = []
    while len(found) < len(pairs):
        first, second = pairs[len(found)]
        targets = []
        for digit in (0, 1):
            pair = (one[first][digit], other[second][digit])
            if pair not in places:
                places[pair] = len(pairs)
                pairs.append(pair)
            targets.append(places[pair])
        found.append((targets[0], targets[1], insides[2 * one[first][2] + other[second][2]]))
    return found


def least_rows(rows, most):
    """The tuple of rows for the classes of rows of digits that are alike; refused if there are more than most.

    If most is None, there may be any number of them.
    """
    classes = [inside for _, _, inside in rows]
    many = len(set(classes))
    while True:
        finer = finer_classes(rows, classes)
        if most is not None and max(finer) >= most:
            raise TooMany(most)
        if max(finer) + 1 == many:
            return numbered_rows(rows, finer)
        classes = finer
        many = max(finer) + 1


def finer_classes(rows, classes):
    """The numbers of classes of rows that are told apart by their own classes or by those behind one more digit."""
    names = {}
    finer = []
    for at, (zero, one, _) in enumerate(rows):
        told = (classes[at], classes[zero], classes[one])
        if told not in names:
            names[told] = len(names)
        finer.append(names[told])
    return finer


def numbered_rows(rows, classes):
    """The tuple of rows for classes of rows, in the order in which they are reached."""
    members = [0]
    places = {classes[0]: 0}
    found = []
    while len(found) < len(members):
        zero, one, inside = rows[members[len(found)]]
        targets = []
        for target in (zero, one):
            if classes[target] not in places:
                places[classes[target]] = len(members)
                members.append(target)
            targets.append(places[classes[target]])
        found.append((targets[0], targets[1], inside))
    return tuple(found)

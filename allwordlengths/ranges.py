"""Which numbers of a range are in a set that is told by rows of digits (digitrows.py), and how many.

Zeros behind the digits of a number change nothing, so numbers are read as if all had the same many digits, and found
from the highest digit on. A layer is the list of the rows that are reached by so many digits; mostly it has few rows.
Ends are a dict that tells for each row of a layer whether the digits above it lead to numbers that are looked for.
"""

from allwordlengths.digitrows import row_behind


def next_layer(rows, layer):
    """The layer behind one more digit."""
    return sorted({rows[at][digit] for at in layer for digit in (0, 1)})


def layers_of(rows, many):
    """The list of the layers for 0 to many digits."""
    layers = [[0]]
    for _ in range(many):
        layers.append(next_layer(rows, layers[-1]))
    return layers


def ends_ahead(rows, ends, layer, digit):
    """The ends for a layer if the digit behind it is known, too."""
    return {at: ends[rows[at][digit]] for at in layer}


def is_met(ends):
    """Whether one of the rows leads to numbers that are looked for."""
    return True in list(ends.values())


def nearest(rows, layers, edge, digit):
    """The number inside that is nearest to edge and not beyond it, with less digits than there are layers; or None.

    With the digit 0 it is the least number that is not below edge, with the digit 1 the greatest that is not above it.
    """
    many = len(layers) - 1
    ends = {at: rows[at][2] == 1 for at in layers[many]}
    found = None
    for place in reversed(range(many)):
        own = (edge >> place) & 1
        if own == digit:
            others = ends_ahead(rows, ends, layers[place], 1 - digit)
            if is_met(others):
                # A number that is equal to edge down to a lower place is nearer, so the last one found counts.
                found = ((edge >> place) ^ 1, others, place)
        ends = ends_ahead(rows, ends, layers[place], own)
    if ends[0]:
        return edge
    return None if found is None else completed(rows, layers, found, digit)


def completed(rows, layers, known, digit):
    """The least number, for the digit 0, or the greatest one, for the digit 1, of which the highest digits are known.

    known is a tuple: the number of these digits, the ends below them, and how many digits are missing.
    """
    value, ends, many = known
    for place in reversed(range(many)):
        likely = ends_ahead(rows, ends, layers[place], digit)
        own = digit if is_met(likely) else 1 - digit
        ends = likely if own == digit else ends_ahead(rows, ends, layers[place], own)
        value = 2 * value + own
    return value


def least_from(rows, low):
    """The least number inside that is not below low, or None."""
    layers = layers_of(rows, low.bit_length())
    found = nearest(rows, layers, low, 0)
    return least_longer(rows, layers) if found is None else found


def least_longer(rows, layers):
    """The least number inside that has at least as many digits as there are layers, or None."""
    known = list(layers)
    # Among more digits than there are rows, behind those of the layers, a row is met twice; what is between can go.
    for _ in range(len(rows) + 1):
        ends = {at: rows[rows[at][1]][2] == 1 for at in known[-1]}
        if is_met(ends):
            return completed(rows, known, (1, ends, len(known) - 1), 0)
        layer = next_layer(rows, known[-1])
        if layer == known[-1]:
            return None
        known.append(layer)
    return None


def last_upto(rows, high):
    """The greatest number inside that is not above high, or None."""
    return nearest(rows, layers_of(rows, high.bit_length()), high, 1)


def has_no_end(rows, inside):
    """Whether endlessly many numbers have an inside."""
    order, many = open_rows(rows, inside)
    return len(order) < many


def greatest_of(rows, inside):
    """The greatest number with an inside, or None if there is none or if there are endlessly many."""
    order, many = open_rows(rows, inside)
    if len(order) < many:
        return None
    # What is known for a row is the greatest number of the digits behind it.
    known = {}
    for at in order:
        found = []
        for digit in (0, 1):
            target = rows[at][digit]
            if target in known:
                found.append(digit + 2 * known[target])
            elif rows[target][2] == inside:
                found.append(digit)
        known[at] = max(found)
    if 0 in known:
        return known[0]
    return 0 if rows[0][2] == inside else None


def open_rows(rows, inside):
    """The rows from which digits with a 1 lead to an inside, and how many they are.

    Each one stands behind those to which it leads. So those that lead to circles are missing: with them there are
    endlessly many numbers, and without them there are not.
    """
    ahead = [[] for _ in rows]
    for at, (zero, one, _) in enumerate(rows):
        ahead[zero].append(at)
        ahead[one].append(at)
    found = [at for at, row in enumerate(rows) if rows[row[1]][2] == inside]
    is_open = {at: True for at in found}
    while found:
        for at in ahead[found.pop()]:
            if at not in is_open:
                is_open[at] = True
                found.append(at)
    missing = {at: len([target for target in rows[at][:2] if target in is_open]) for at in is_open}
    order = [at for at in is_open if missing[at] == 0]
    seen = 0
    while seen < len(order):
        for at in ahead[order[seen]]:
            missing[at] = missing[at] - 1
            if missing[at] == 0:
                order.append(at)
        seen = seen + 1
    return order, len(is_open)


def numbers_between(rows, low, high):
    """The list of the numbers from low to high, in a short range, that are inside, ascending."""
    if high < low:
        return []
    many = (high - low).bit_length()
    # The rows that are reached by the lowest digits, in the order of the numbers that these tell.
    behind = [0]
    for _ in range(many):
        behind = [*[rows[at][0] for at in behind], *[rows[at][1] for at in behind]]
    reached = sorted(set(behind))
    found = []
    for head in range(low >> many, (high >> many) + 1):
        told = {at: rows[row_behind(rows, at, head)][2] == 1 for at in reached}
        found.extend([(head << many) + tail for tail, at in enumerate(behind) if told[at]])
    return [number for number in found if low <= number <= high]


def many_upto(rows, high):
    """How many numbers up to high are inside."""
    layers = layers_of(rows, high.bit_length())
    # How many rows of digits lead to each row of a layer.
    ways = [{0: 1}]
    for _ in range(high.bit_length()):
        found = {}
        for at, many in ways[-1].items():
            for target in rows[at][:2]:
                found[target] = found.get(target, 0) + many
        ways.append(found)
    ends = {at: rows[at][2] == 1 for at in layers[-1]}
    total = 0
    for place in reversed(range(high.bit_length())):
        own = (high >> place) & 1
        if own == 1:
            # Those that are equal to high above this place and have the digit 0 there.
            total = total + sum([many for at, many in ways[place].items() if ends[rows[at][0]]])
        ends = ends_ahead(rows, ends, layers[place], own)
    return total + int(ends[0])

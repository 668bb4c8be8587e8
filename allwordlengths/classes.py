"""Which rows (digitrows.py) are alike: whatever digits follow them, the same insides are reached."""

from allwordlengths.errors import TooMany

# What stands for a class that is not known, and for the class of a row itself where the row leads to itself.
UNKNOWN = -1
ITSELF = -2


def classes_of(rows, most):
    """For each row the number of its class; refused if there are more than most classes, which may be None.

    Each row has to be reached by some digits.
    """
    classes, told, left = classes_at_sight(rows, most)
    if not left:
        return classes
    # Behind the classes that are known stand the rows that are left.
    places = list(classes)
    for place, at in enumerate(left):
        places[at] = len(told) + place
    known = list(told)
    for at in left:
        zero, one, inside = rows[at]
        known.append((places[zero], places[one], inside))
    finer = refined(known, most)
    return [finer[place] for place in places]


def classes_at_sight(rows, most):
    """The list of classes, as far as they can be known at sight, the rows of these classes, and what rows are left.

    The class of a row is known at sight if those of the rows to which it leads are, or are its own. Rows mostly stand
    ahead of those to which they lead, so the last one is looked at first, behind those that lead to themselves alone.
    """
    classes = [UNKNOWN] * len(rows)
    names = {}
    told = []
    nowhere_else = [at for at, (zero, one, _) in enumerate(rows) if zero == at and one == at]
    left = [*nowhere_else, *list(range(len(rows) - 1, -1, -1))]
    before = 2 * len(left)
    while left and 2 * len(left) <= before:
        before = len(left)
        later = []
        for at in left:
            zero, one, inside = rows[at]
            first = ITSELF if zero == at else classes[zero]
            second = ITSELF if one == at else classes[one]
            if first == UNKNOWN or second == UNKNOWN:
                later.append(at)
            else:
                own = names.setdefault((first, second, inside), len(told))
                if own == len(told):
                    to_zero = own if first == ITSELF else first
                    to_one = own if second == ITSELF else second
                    told.append((to_zero, to_one, inside))
                    # A row that leads to a row of this class in the place of itself is of this class, too.
                    if first == ITSELF or second == ITSELF:
                        names[(to_zero, second, inside)] = names[(first, to_one, inside)] = own
                        names[(to_zero, to_one, inside)] = own
                classes[at] = own
        if most is not None and len(told) > most:
            raise TooMany(most)
        left = later
    return classes, told, left


def refined(rows, most):
    """The list of the numbers of the classes of any rows; refused if there are more than most of them.

    Blocks of rows are parted as long as the rows of one of them lead, by a digit, into another one only in part. What
    waits are the blocks and digits by which others may still be parted; of two parts the smaller one is enough.
    """
    by_zero = [[] for _ in rows]
    by_one = [[] for _ in rows]
    for at, (zero, one, _) in enumerate(rows):
        by_zero[zero].append(at)
        by_one[one].append(at)
    blocks = {}
    for inside in (0, 1):
        blocks[inside] = {at: True for at, row in enumerate(rows) if row[2] == inside}
    names = [inside for _, _, inside in rows]
    order = [(0, 0), (0, 1), (1, 0), (1, 1)]
    waiting = {way: True for way in order}
    while order:
        # One of the first two blocks may be empty.
        if most is not None and len(blocks) > most + 1:
            raise TooMany(most)
        block, digit = order.pop()
        del waiting[(block, digit)]
        met = {}
        for at in blocks[block]:
            for source in (by_zero[at] if digit == 0 else by_one[at]):
                met.setdefault(names[source], []).append(source)
        for name, sources in met.items():
            if len(sources) < len(blocks[name]):
                own = len(blocks)
                blocks[own] = {source: True for source in sources}
                for source in sources:
                    del blocks[name][source]
                    names[source] = own
                smaller = own if len(blocks[own]) <= len(blocks[name]) else name
                for way in (0, 1):
                    more = (own if (name, way) in waiting else smaller, way)
                    order.append(more)
                    waiting[more] = True
    return names

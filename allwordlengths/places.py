"""Where the bits of a word go in programs of moves and flips."""

from math import lcm

from allwordlengths.checks import check_number, check_size, is_number
from allwordlengths.errors import BadSize, NotMoves, TooMany
from allwordlengths.steps import FLIPS, MOVES, is_flipped, place_from

MOST_PLACES = 200
MOST_TIMES = 10 ** 30
MOST_SIZE_HOME = 100


def goes_to(program, k, j):
    """The place to which the bit at the place j of a word of k bits goes."""
    check_way(program, k, j)
    return followed_back(~program, k, j)[0]


def comes_from(program, k, i):
    """The place from which the bit at the place i of the result comes."""
    check_way(program, k, i)
    return followed_back(program, k, i)[0]


def flips_on_way(program, k, j):
    """1 if the bit at the place j is flipped an odd number of times on its way, 0 otherwise."""
    check_way(program, k, j)
    return followed_back(~program, k, j)[1]


def round_trip(program, k, j, most):
    """The tuple of the places at which the bit at the place j is until it is there again."""
    check_way(program, k, j)
    check_number(most, 1, MOST_PLACES)
    places, _ = trip_of(program, k, j, most)
    return tuple(places)


def place_after(program, k, j, times):
    """The place to which the bit at the place j goes if the program is done times times."""
    check_way(program, k, j)
    check_number(times, -MOST_TIMES, MOST_TIMES)
    if abs(times) > MOST_PLACES:
        places, _ = trip_of(program, k, j, MOST_PLACES)
        return places[times % len(places)]
    back = program if times < 0 else ~program
    place = j
    for _ in range(abs(times)):
        place = followed_back(back, k, place)[0]
    return place


def times_home(program, k):
    """How many times the program has to be done, at the least, until each word of k bits is as it was."""
    check_moves(program)
    if not is_number(k, 1, MOST_SIZE_HOME):
        raise BadSize(k)
    seen = set()
    times = 1
    for j in range(k):
        if j not in seen:
            places, flips = trip_of(program, k, j, k)
            for place in places:
                seen.add(place)
            # A bit that is flipped on its round trip is as it was only after the second one.
            times = lcm(times, len(places) * (1 + flips))
    return times


def check_moves(program):
    """Refuse a program with a step that is neither a move nor a flip."""
    for index, step in enumerate(program.steps):
        if step.kind not in MOVES and step.kind not in FLIPS:
            raise NotMoves(index)


def check_way(program, k, place):
    """Refuse what all functions about one place refuse."""
    check_moves(program)
    check_size(k)
    check_number(place, 0, k - 1)


def followed_back(program, k, i):
    """The place from which the bit at the place i of the result comes, and how often, modulo 2, it is flipped."""
    place = i
    flips = 0
    for step in program.steps[::-1]:
        if step.kind in MOVES:
            place = place_from(step.kind, step.by, k, place)
        elif is_flipped(step.kind, step.rest, k, place):
            flips = 1 - flips
    return place, flips


def trip_of(program, k, j, most):
    """The list of the places of a round trip, and how often, modulo 2, the bit is flipped on it."""
    # Followed back through the inverse, a bit goes on its way; flips are their own inverses.
    back = ~program
    places = [j]
    place, flips = followed_back(back, k, j)
    while place != j:
        if len(places) == most:
            raise TooMany(most)
        places.append(place)
        place, more = followed_back(back, k, place)
        flips = flips ^ more
    return places, flips

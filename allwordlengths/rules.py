"""Rules about numbers that go by their digits, the lowest ones first.

A rule is a tuple of tests that all have to hold. A test is a pair (question, key). The question is a pair
(kind, counts): counts tells how often each number is added; whether what is added, and what is known already, is 0,
is below 0 or is a multiple of a number is asked. The key is what is known already. So the question stays the same when
the lowest digits have been read, and only the key changes.
"""

from allwordlengths.bits import full


def is_zero(counts, plus):
    """The test whether a sum is 0."""
    return ("zero", counts), plus


def is_below(counts, plus):
    """The test whether a sum is below 0."""
    return ("below", counts), plus


def is_multiple(counts, plus, of):
    """The test whether a sum is a multiple of a number."""
    return ("multiple", counts), (plus % of, of)


def next_key(kind, key, total):
    """The key behind one more digit of each number, which add up to a total; None if the test cannot hold any more.

    The digits that follow weigh twice as much, so the same is asked of them and of half of what is known.
    """
    if kind == "below":
        return (key + total) // 2
    if kind == "zero":
        return (key + total) // 2 if (key + total) % 2 == 0 else None
    known, of = key
    if of % 2 == 1:
        return (known + total) * (of + 1) // 2 % of, of
    return ((known + total) // 2 % (of // 2), of // 2) if (known + total) % 2 == 0 else None


def next_keys(test):
    """The list of the keys of a test behind each letter, in the order of the letters."""
    (kind, counts), key = test
    totals = [0]
    for count in counts:
        totals = [total + more for total in totals for more in (0, count)]
    return [next_key(kind, key, total) for total in totals]


def holds(question, key):
    """Whether a test holds if no digits 1 follow."""
    kind, _ = question
    if kind == "below":
        return key < 0
    return key == 0 if kind == "zero" else key[0] == 0


class Automaton:
    """What tells, modulo 2, how many of some rules hold: states, from which a letter leads to one state at most.

    start and ends are the masks of the states at which reading begins, and of those whose rules hold if no digits 1
    follow; ways has for each state the list of the pairs (state, letter) that lead to it.
    """

    def __init__(self, start, ends, ways):
        self.start = start
        self.ends = ends
        self.states = len(ways)
        self.ways = ways


def automaton_of(letters, rules):
    """The Automaton of rules, no two of which are equal and each of which has at least one test."""
    states = [(tuple([question for question, _ in rule]), tuple([key for _, key in rule])) for rule in rules]
    places = {state: place for place, state in enumerate(states)}
    start = full(len(states))
    ways = [[] for _ in states]
    behind = {}
    at = 0
    while at < len(states):
        questions, keys = states[at]
        tests = list(zip(questions, keys))
        for test in tests:
            if test not in behind:
                behind[test] = next_keys(test)
        columns = [behind[test] for test in tests]
        for letter, found in zip(letters, list(zip(*columns))):
            if None not in found:
                state = (questions, found)
                if state not in places:
                    places[state] = len(states)
                    states.append(state)
                    ways.append([])
                ways[places[state]].append((at, letter))
        at = at + 1
    ends = sum([end_value(state) << place for place, state in enumerate(states)])
    return Automaton(start, ends, ways)


def end_value(state):
    """1 if the rule of a state holds if no digits 1 follow, and 0 otherwise."""
    questions, keys = state
    return int(all([holds(question, key) for question, key in zip(questions, keys)]))

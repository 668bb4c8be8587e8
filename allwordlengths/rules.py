"""Rules about numbers that go by their digits, and the least machines of such rules.

A rule is a tuple of tests that all have to hold. A test is a tuple (kind, counts, plus, of) about the sum of plus and
of the numbers, each as often as counts tells: whether it is 0, or below 0, or a multiple of `of`.
"""

from allwordlengths.machines import least_machine
from allwordlengths.vectors import summed


def is_zero(counts, plus):
    """The test whether a sum is 0."""
    return "zero", counts, plus, 1


def is_below(counts, plus):
    """The test whether a sum is below 0."""
    return "below", counts, plus, 1


def is_multiple(counts, plus, of):
    """The test whether a sum is a multiple of a number."""
    return "multiple", counts, plus, of


def first_key(test):
    """What is known for a test ahead of all digits."""
    kind, _, plus, of = test
    return (plus % of, 1) if kind == "multiple" else (plus, 0)


def next_key(test, key, digits):
    """What is known for a test with one more digit of each number, or None if it cannot hold any more."""
    kind, counts, _, of = test
    told, weight = key
    total = sum([count * digit for count, digit in zip(counts, digits)])
    if kind == "multiple":
        return (told + weight * total) % of, 2 * weight % of
    if kind == "zero" and (told + total) % 2 == 1:
        return None
    # The digits that follow weigh twice as much, so the test asks the same of them and of half of what is known.
    return (told + total) // 2, 0


def holds(test, key):
    """Whether a test holds if no digits 1 follow."""
    told, _ = key
    return told < 0 if test[0] == "below" else told == 0


def first_state(rule):
    """What is known for a rule ahead of all digits: the rule, and what is known for each test."""
    return rule, tuple([first_key(test) for test in rule])


def next_state(state, digits):
    """What is known for a rule with one more digit of each number, or None if it cannot hold any more."""
    rule, keys = state
    found = [next_key(test, key, digits) for test, key in zip(rule, keys)]
    return None if None in found else (rule, tuple(found))


def end_value(state):
    """1 if a rule holds if no digits 1 follow, and 0 otherwise."""
    rule, keys = state
    return int(all([holds(test, key) for test, key in zip(rule, keys)]))


def machine_of_rules(letters, rules):
    """The least machine that tells, modulo 2, how many of some rules, no two of which are equal, hold for numbers."""
    states = [first_state(rule) for rule in rules]
    places = {state: place for place, state in enumerate(states)}
    start = (1 << len(states)) - 1
    rows = {letter: [] for letter in letters}
    at = 0
    while at < len(states):
        for letter in letters:
            state = next_state(states[at], [int(digit) for digit in letter])
            if state is not None and state not in places:
                places[state] = len(states)
                states.append(state)
            rows[letter].append(0 if state is None else 1 << places[state])
        at = at + 1
    ends = [end_value(state) for state in states]

    def follow(vector):
        return [summed(rows[word], vector) for word in letters]

    def value(vector):
        return summed(ends, vector)

    return least_machine(letters, start, follow, value, len(states))

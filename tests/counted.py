"""A plain second reading of marks: runs that are counted class by class between their ends."""


def stands_in(run, j):
    first, last, step = run
    return first <= j <= last and (j - first) % step == 0


def is_marked(runs, j):
    return sum(stands_in(run, j) for run in runs) % 2 == 1


def many_between(told, ends, low, high):
    """How many places from low on and below high are told; between the ends the told places repeat after 12."""
    edges = sorted({low, high, *[end for end in ends if low < end < high]})
    many = 0
    for start, end in zip(edges, edges[1:]):
        for j in range(start, min(start + 12, end)):
            if told(j):
                many += (end - 1 - j) // 12 + 1
    return many


def ends_of(runs):
    return [end for first, last, _ in runs for end in (first, last + 1)]


def many_marked(runs, low, high):
    return many_between(lambda j: is_marked(runs, j), ends_of(runs), low, high)


def runs_at(random, size, many):
    """Runs without a pattern, among them short ones, long ones and some that stand beside each other."""
    runs = []
    while len(runs) < many:
        first = random.choice([random.randrange(size), random.randrange(min(size, 40)), size - 1,
                               size - 1 - random.randrange(min(size, 40))])
        last = random.choice([first, size - 1, random.randrange(first, size), min(size - 1, first + random.randrange(30))])
        runs.append((first, last, random.randint(1, 4)))
        if random.random() < 0.1:
            runs.append(random.choice(runs))
    return runs[:many]

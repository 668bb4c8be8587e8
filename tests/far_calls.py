"""Calls about sets of sizes with far bounds, and what they answered before they were made quick."""

import hashlib

from allwordlengths.errors import TooMany
from allwordlengths.sizes import Sizes, only_sizes, sizes_by, sizes_from, sizes_of_rows, sizes_rest, sizes_upto

K = 10 ** 30
THREE = [2 ** 97 + n * (2 ** 94 + 1) for n in range(3)]


def counter(many):
    """The sizes with a number of digits that many divides."""
    return sizes_by(0, lambda key, digit: (key + 1) % many, lambda key: key == 0)


def scrambled(many):
    """A set told by rows without a pattern."""
    return sizes_of_rows([((7 * at + 3) % many, (5 * at * at + 1) % many, at // 3 % 2) for at in range(many)])


CALLS = {
    "sizes_upto": lambda: sizes_upto(K),
    "sizes_upto less 1": lambda: sizes_upto(K - 1),
    "sizes_from": lambda: sizes_from(K),
    "only_sizes": lambda: only_sizes((1, 5, 9, K)),
    "only_sizes, three": lambda: only_sizes(THREE),
    "|": lambda: sizes_upto(K) | sizes_from(K - 5),
    "| with a rest": lambda: sizes_upto(10 ** 15) | sizes_rest(1, 3),
    "&": lambda: sizes_upto(K) & sizes_from(K - 5),
    "& with a rest": lambda: sizes_from(10 ** 15) & sizes_rest(2, 3),
    "-": lambda: sizes_upto(K) - sizes_from(K - 10 ** 20),
    "^": lambda: sizes_upto(K) ^ only_sizes((K - 3, 7)),
    "^ refused": lambda: sizes_upto(K) ^ sizes_rest(2, 5),
    "~": lambda: ~sizes_upto(K),
    "~ of few": lambda: ~only_sizes(THREE),
    "shifted back": lambda: sizes_upto(K).shifted(-30),
    "shifted on": lambda: sizes_upto(K).shifted(30),
    "shifted from": lambda: sizes_from(K).shifted(-29),
    "twice": lambda: sizes_upto(K).twice(1),
    "twice 0": lambda: sizes_from(K).twice(0),
    "halves": lambda: sizes_upto(K).halves(1),
    "halves 0": lambda: sizes_from(K).halves(0),
    "counter": lambda: counter(199),
    "counter refused": lambda: counter(201),
    "counter shifted": lambda: counter(60).shifted(-1),
    "~ of a counter": lambda: ~counter(150),
    "scrambled": lambda: scrambled(64),
    "greatest": lambda: sizes_upto(K).greatest(),
    "greatest of a rest": lambda: (sizes_upto(10 ** 20) & sizes_rest(2, 3)).greatest(),
    "no greatest": lambda: sizes_from(K).greatest(),
    "from_on": lambda: sizes_from(K).from_on(),
    "from_on of all but few": lambda: (~only_sizes((5, K))).from_on(),
    "no from_on": lambda: sizes_upto(K).from_on(),
    "count_upto": lambda: sizes_upto(K).count_upto(K),
    "count_upto of a rest": lambda: (sizes_from(10 ** 20) & sizes_rest(2, 3)).count_upto(K),
    "least": lambda: sizes_from(K).least(),
    "next_from": lambda: only_sizes((5, K)).next_from(6),
    "next_from beyond": lambda: sizes_upto(K - 1).next_from(K),
    "next_from of a counter": lambda: counter(199).next_from(K),
    "last_upto": lambda: only_sizes((5, K)).last_upto(K - 1),
    "is_endless": lambda: sizes_from(K).is_endless(),
    "is not endless": lambda: sizes_upto(K).is_endless(),
    "within": lambda: only_sizes((K, K - 9)).within(sizes_from(K - 9)),
    "each": lambda: list(sizes_upto(K - 3).each(K - 1000, K)),
    "each of a rest": lambda: list((sizes_from(K - 500) | sizes_upto(9)).each(K - 900, K)),
}


def answer_of(name):
    """What a call answers: a number or the like as it is, of a set its classes and a digest."""
    try:
        found = CALLS[name]()
    except TooMany as error:
        return "TooMany(%d)" % error.most
    if isinstance(found, Sizes):
        return "%d %s" % (len(found.digit_rows), hashlib.sha256(repr(found.digit_rows).encode()).hexdigest()[:16])
    if isinstance(found, list):
        return [len(found), sum(found)]
    return found


# What each call answered.
ANSWERS = {
    "sizes_upto": "269 59f9a3944750eee6",
    "sizes_upto less 1": "269 f9a718e2074b5140",
    "sizes_from": "170 4d0781670f252877",
    "only_sizes": "105 9b92892f977208e5",
    "only_sizes, three": "288 c0cc44cdfba90062",
    "|": "2 64a27d0d19bc0200",
    "| with a rest": "264 6b6a5512e9adf0f9",
    "&": "133 2648c122369a4179",
    "& with a rest": "180 60da7e664c2b6019",
    "-": "279 2ff57c22e79a3ad3",
    "^": "327 8a27e250dd21b574",
    "^ refused": "TooMany(400)",
    "~": "200 3f024a5d6611d73a",
    "~ of few": "291 cbe328ef95717a01",
    "shifted back": "298 005565cd67ae374d",
    "shifted on": "269 ea6d41b6e91b2c0f",
    "shifted from": "200 85beb79f9db8a1e1",
    "twice": "270 2e3f6c43faff086b",
    "twice 0": "172 2b5a30e7a6cc1ad0",
    "halves": "267 e071ef68907b5148",
    "halves 0": "169 717fe356fbc17bc5",
    "counter": "398 6c8e6ff48d6f49cf",
    "counter refused": "TooMany(400)",
    "counter shifted": "180 00146575176ffae4",
    "~ of a counter": "300 eb4b4302caff66ee",
    "scrambled": "32 a2278e840fecd4b5",
    "greatest": 1000000000000000000000000000000,
    "greatest of a rest": 99999999999999999998,
    "no greatest": None,
    "from_on": 1000000000000000000000000000000,
    "from_on of all but few": 1000000000000000000000000000001,
    "no from_on": None,
    "count_upto": 1000000000000000000000000000000,
    "count_upto of a rest": 333333333300000000000000000000,
    "least": 1000000000000000000000000000000,
    "next_from": 1000000000000000000000000000000,
    "next_from beyond": None,
    "next_from of a counter": 401734511064747568885490523085290650630550748445698208825344,
    "last_upto": 5,
    "is_endless": True,
    "is not endless": False,
    "within": True,
    "each": [998, 997999999999999999999999999499503],
    "each of a rest": [501, 500999999999999999999999999874750],
}

"""Points 40 to 42: programs that are told by what they make of words."""

import unittest
from itertools import product
from random import Random

from allwordlengths.compare import alike, first_apart
from allwordlengths.errors import BadLook, BadNumber, BadStep, TooLarge, TooMany
from allwordlengths.programs import Program
from allwordlengths.sizes import Sizes, all_sizes, no_sizes, only_sizes, sizes_rest, sizes_upto
from allwordlengths.told import agreed_sizes, candidates, fits, learned, question
from cases import LARGE, NO_INTEGERS, REWRITTEN, Case, K, is_refused
from plain import are_alike, expected_steps, odd_values, plain_first_apart, program_texts, scattered

STEPS = list(expected_steps())
SIZES = (1, 2, 3, 4, 5, 6, 8, 11, 14, 19, 31)
WORD = (1, 0, 1)

# Values that are no looks.
NO_LOOKS = [
    *odd_values(), 0, "", "10", (), (WORD,), (WORD, WORD, WORD), [WORD] * 4, (WORD, (1, 0)), ((), ()), ((1, 0), WORD),
    (WORD, ()), ((), WORD), ((0,) * 1001, (0,) * 1001), (WORD, (1, 0, 2)), ((1, 0, -1), WORD), (WORD, (1, 0, True)),
    ((False, 0, 1), WORD), (WORD, (1, 0, None)), (WORD, (1, 0, 1.0)), (WORD, "101"), ("101", WORD), (WORD, None),
    (None, WORD), (WORD, 5), (WORD, {0: 1, 1: 0, 2: 1}), ({0, 1}, {0, 1}), (WORD, [1, 0, "1"]), (WORD, range(2)), (b"ab", b"ab"),
]


def look_of(text, word):
    return word, Program(text).done(word)


def plain_candidates(steps, most, looks):
    """The texts of the candidates, by trying; what does the same at some sizes is taken to do so at all."""
    found, seen = [], []
    for many in range(most + 1):
        for parts in product(steps, repeat=many):
            text = " then ".join(parts)
            if text.count("deal") > 2 or is_refused(text):
                continue
            if all(Program(text).done(given) == tuple(result) for given, result in looks):
                if not any(all(are_alike(text, other, k) for k in SIZES) for other in seen):
                    found.append(text)
                    seen.append(text)
    return found


def texts_of(programs):
    return [program.text for program in programs]


class FitsTest(Case):
    """Point 40."""

    def test_right_and_wrong(self):
        random = Random(181)
        for text in program_texts(182, 60, 5):
            program = Program(text)
            words = [scattered(random.randint(1, 30), random.randint(1, 10 ** 6)) for _ in range(4)]
            looks = [look_of(text, word) for word in words]
            for given in (looks, tuple(looks), [[list(word), list(result)] for word, result in looks], [], ()):
                self.assertIs(fits(program, given), True)
            index = random.randrange(4)
            given, result = looks[index]
            place = random.randrange(len(result))
            looks[index] = (given, result[:place] + (1 - result[place],) + result[place + 1:])
            self.assertIs(fits(program, looks), False)

    def test_a_thousand_bits(self):
        word = scattered(1000, 5)
        self.assertIs(fits(Program("turn"), [(word, word[::-1])]), True)
        self.assertIs(fits(Program("turn"), [(word, word)]), False)

    def test_no_looks(self):
        for text in ("", "turn", *LARGE):
            for value in NO_LOOKS:
                for index in (0, 1, 3):
                    # Looks that do not fit come ahead, and more that are none behind.
                    looks = [((1, 0, 0, 0, 1), (0, 1, 1, 1, 0))] * index + [value, None]
                    self.refused(BadLook, "index", index, fits, Program(text), looks)
                    self.refused(BadLook, "index", index, fits, Program(text), tuple(looks))

    def test_they_stay(self):
        looks = [[[1, 0, 0], [0, 0, 1]]]
        self.assertIs(fits(Program("turn"), looks), True)
        self.assertEqual(looks, [[[1, 0, 0], [0, 0, 1]]])
        self.assertIs(fits(program=Program("turn"), looks=looks), True)

    def test_programs_whose_tables_are_refused(self):
        for text in LARGE:
            self.assertIs(fits(Program(text), [look_of(text, scattered(40, 7))]), True)


class CandidatesTest(Case):
    """Point 41: candidates."""

    def check(self, steps, most, looks):
        found = candidates(steps, most, looks)
        self.assertEqual([type(found), *{type(program) for program in found}][:2], [tuple, Program][:1 + bool(found)])
        self.assertEqual(texts_of(found), plain_candidates(steps, most, looks), (steps, most, looks))
        return found

    def test_without_looks(self):
        random = Random(183)
        for number in range(30):
            steps = random.sample(STEPS, random.randint(0, 4))
            self.check(steps if number % 2 else tuple(steps), random.randint(0, 2), ())
        for steps in (["turn", "roll 1", "roll -1", "swap"], ["near 1", "near 2", "sum 1", "sum 2"], ["deal", "undeal"],
                      ["flip first", "flip last", "turn"], ["sum -3 at 2 of 3", "sum 3 at 2 of 3", "near 3 at 2 of 3"]):
            for most in (0, 1, 2):
                self.check(steps, most, [])
                self.check(steps[::-1], most, [])

    def test_with_looks(self):
        random = Random(184)
        for _ in range(40):
            steps = random.sample(STEPS, random.randint(1, 4))
            parts = [random.choice(steps) for _ in range(random.randint(0, 2))]
            words = [scattered(random.randint(1, 9), random.randint(1, 10 ** 6)) for _ in range(random.randint(1, 3))]
            found = self.check(steps, 2, [look_of(" then ".join(parts), word) for word in words])
            if not is_refused(" then ".join(parts)):
                self.assertTrue(any(alike(program, Program(" then ".join(parts))) for program in found))

    def test_tables_that_are_refused(self):
        steps = ["sum -3 at 2 of 3", "sum 3 at 2 of 3"]
        refused = [" then ".join(parts) for parts in product(steps, repeat=2) if is_refused(" then ".join(parts))]
        self.assertTrue(refused)
        found = texts_of(candidates(steps, 2, ()))
        self.assertFalse(set(found) & set(refused))
        self.assertEqual(len(found), 7 - len(refused))

    def test_refused(self):
        for looks in ((), [None], 5):
            for most in (0, 3, None):
                for steps in (["turn"] * 5, ("turn", "swap", "deal", "undeal", "x"), [None] * 9):
                    self.refused(TooMany, "most", 4, candidates, steps, most, looks)
                for value in [*odd_values(), 0, "", "roll 4", "turn then turn", "turn"]:
                    for index in (1, 3):
                        steps = ["turn", "swap", "deal"][:index] + [value] + [None] * (3 - index)
                        self.refused(BadStep, "index", index, candidates, steps, most, looks)
                        self.refused(BadStep, "index", index, candidates, tuple(steps), most, looks)
                self.refused(BadStep, "index", 2, candidates, ["turn", "swap", "swap", "turn"], most, looks)
            for value in [*NO_INTEGERS, -1, 3, K]:
                for steps in ([], ["turn", "swap"]):
                    self.refused(BadNumber, "number", value, candidates, steps, value, looks)
        for value in NO_LOOKS:
            for index in (0, 2):
                looks = [(WORD, (0, 0, 0))] * index + [value, None]
                for steps in ([], ["turn", "swap"]):
                    self.refused(BadLook, "index", index, candidates, steps, 1, looks)

    def test_what_is_told_is_new(self):
        steps, looks = ["turn", "roll 1"], [[[1, 0, 0], [0, 0, 1]]]
        found = candidates(steps, 2, looks)
        self.assertIsNot(found, candidates(steps, 2, looks))
        self.assertEqual((steps, looks), (["turn", "roll 1"], [[[1, 0, 0], [0, 0, 1]]]))
        self.assertEqual(candidates(steps=steps, most=2, looks=looks), found)


class AgreedTest(Case):
    """Points 41 and 42: agreed_sizes and question."""

    def check(self, texts):
        programs = [Program(text) for text in texts]
        agreed = agreed_sizes(programs)
        self.assertIs(type(agreed), Sizes)
        for k in range(1, 11):
            same = all(are_alike(texts[0], other, k) for other in texts[1:])
            self.assertIs(k in agreed, same, (texts, k))
        self.assertEqual(agreed_sizes(tuple(programs[::-1])), agreed)
        word = question(programs)
        self.assertEqual(word, self.plain_question(texts), texts)
        self.assertEqual(question(tuple(programs)), word)
        if word is None:
            self.assertTrue(agreed.is_all())
        else:
            self.assertIs(type(word), tuple)
            self.assertEqual(len(word), (~agreed).least())
            self.assertGreater(len({program.done(word) for program in programs}), 1)

    def plain_question(self, texts):
        places = [plain_first_apart(texts[0], other, 40) for other in texts[1:]]
        found = sorted((k, i, -1 if j is None else j) for k, i, j in [place for place in places if place is not None])
        if not found:
            return None
        k, _, j = found[0]
        return tuple(int(place == j) for place in range(k))

    def test_programs(self):
        random = Random(185)
        texts = [text for text in program_texts(186, 150, 3) if not is_refused(text)]
        for _ in range(50):
            self.check(random.sample(texts, random.randint(2, 5)))

    def test_equal_ones(self):
        random = Random(187)
        for one, other in REWRITTEN:
            self.check([one, other])
            self.check([one, other, one, other])
            self.check([other, "flip 2 of 4", one])
            self.check([one, other, random.choice(["turn", "near 3", "deal", "flip last"]), other])
        self.check(["near 3", "near 3", "near 3"])

    def test_fewer_than_two(self):
        for programs in ([], (), [Program("turn")], (Program(LARGE[0]),)):
            self.assertEqual(agreed_sizes(programs), all_sizes())
            self.assertIsNone(question(programs))

    def test_too_large(self):
        for text in LARGE:
            for texts in ((text, ""), ("", text), ("", "", text), ("near 1", "near 1", "turn", text, "swap")):
                programs = [Program(part) for part in texts]
                self.refused(TooLarge, "most", 60, agreed_sizes, programs)
                self.refused(TooLarge, "most", 60, question, programs)

    def test_flips_are_asked_by_the_word_of_noughts(self):
        self.assertEqual(question([Program("flip first"), Program("flip last")]), (0, 0))
        self.assertEqual(question([Program(""), Program("flip 2 of 4")]), (0, 0, 0))
        # At place 0 of size 2 the flips of one other program are unlike, and the places of another one.
        self.assertEqual(question([Program(""), Program("turn"), Program("flip 1 of 2 then turn")]), (0, 0))
        self.assertEqual(question([Program(""), Program("near 1"), Program("turn")]), (1, 0))
        self.assertEqual(first_apart(Program(""), Program("near 1")), (2, 0, 1))

    def test_known_sets(self):
        for texts, expected in (
                (("", "near 1", "near 2"), only_sizes((1,))), (("", "near 2", "near 3"), sizes_upto(2)),
                (("turn then flip 0 of 2", "flip 0 of 2 then turn"), sizes_rest(1, 2)), (("", "flip first", "turn"), no_sizes()),
                (("roll 3", "roll -3", ""), only_sizes((1, 3))), (("deal then deal", "", "deal then undeal"), sizes_upto(4)),
                (("flip last", "flip 3 of 4", "flip last"), only_sizes((4,)))):
            self.assertEqual(agreed_sizes([Program(text) for text in texts]), expected, texts)

    def test_names_of_arguments(self):
        self.assertEqual(agreed_sizes(programs=[]), all_sizes())
        self.assertIsNone(question(programs=[]))

    def test_examples(self):
        steps, looks = ["turn", "roll 1"], [((1, 0, 0), (0, 0, 1))]
        found = candidates(steps, 2, looks)
        self.assertEqual(texts_of(found), ["turn", "roll 1 then roll 1"])
        self.assertEqual(Program("roll 1 then turn").done((1, 0, 0)), (0, 1, 0))
        self.assertEqual(agreed_sizes(found), only_sizes((1,)))
        self.assertEqual(first_apart(*found), (2, 0, 0))
        self.assertEqual(question(found), (1, 0))
        self.assertEqual(texts_of(candidates(steps, 2, ())),
                         ["", "turn", "roll 1", "turn then roll 1", "roll 1 then turn", "roll 1 then roll 1"])


class Box:
    """A box that does a program and keeps what it was asked."""

    def __init__(self, text, made=tuple):
        self.text = text
        self.made = made
        self.asked = []

    def __call__(self, word):
        self.asked.append(word)
        return self.made(Program(self.text).done(word))


class LearnedTest(Case):
    """Point 42: learned."""

    def plain_learned(self, text, steps, most):
        possible, looks = plain_candidates(steps, most, ()), []
        while len(possible) > 1:
            word = AgreedTest().plain_question(possible)
            looks.append(look_of(text, word))
            possible = [other for other in possible if look_of(other, word) == looks[-1]]
        return possible[0] if possible else None, tuple(looks)

    def check(self, text, steps, most, made=tuple):
        box = Box(text, made)
        found = learned(box, steps, most)
        self.assertEqual((type(found), len(found), type(found[1])), (tuple, 2, tuple))
        program, looks = found
        self.assertEqual((None if program is None else program.text, looks), self.plain_learned(text, steps, most))
        self.assertEqual([given for given, _ in looks], box.asked)
        for look in looks:
            self.assertEqual([type(look), *[type(word) for word in look]], [tuple] * 3)
        self.assertTrue(all(type(word) is tuple for word in box.asked))
        return found

    def test_boxes_that_do_a_candidate(self):
        random = Random(188)
        for number in range(40):
            steps = random.sample(STEPS, random.randint(1, 4))
            possible = candidates(steps, 2, ())
            program = random.choice(possible)
            found, looks = self.check(program.text, steps, 2, list if number % 2 else tuple)
            self.assertEqual(found, program)
            self.assertLess(len(looks), len(possible))

    def test_boxes_that_do_other_programs(self):
        random = Random(189)
        none = 0
        for text in program_texts(190, 50, 4):
            found, _ = self.check(text, random.sample(STEPS, random.randint(1, 4)), random.randint(0, 2))
            none += found is None
        self.assertGreater(none, 5)

    def test_boxes_that_do_no_program(self):
        for steps in (["turn", "roll 1"], ["near 1", "flip first", "deal"]):
            for box in (lambda word: [0] * len(word), lambda word: (1,) * len(word),
                        lambda word: sorted(word), lambda word: [bit ^ place % 3 % 2 for place, bit in enumerate(word)]):
                program, looks = learned(box, steps, 2)
                self.assertTrue(looks)
                if program is not None:
                    self.assertTrue(fits(program, looks))
                else:
                    self.assertEqual(candidates(steps, 2, looks), ())

    def test_nothing_to_ask(self):
        def box(word):
            raise AssertionError("nothing is to be asked")
        self.assertEqual(learned(box, [], 2), (Program(""), ()))
        self.assertEqual(learned(box, ["turn"], 0), (Program(""), ()))
        self.assertEqual(learned(box, ("roll 1", "turn"), 0), (Program(""), ()))

    def test_results_that_are_no_words(self):
        steps = ["near 1", "flip first", "turn", "deal"]
        truth = candidates(steps, 2, ())[-1]
        many = len(learned(truth.done, steps, 2)[1])
        self.assertGreater(many, 2)
        # Two of these values are words of one bit.
        values = [value for value in odd_values() if value not in ([0], (1,))]
        makers = [lambda word, value=value: value for value in [*values, 0, "", "10", ()]]
        makers += [lambda word: word[1:], lambda word: word + (0,), lambda word: (2,) + word[1:], lambda word: None,
                   lambda word: (True,) + word[1:], lambda word: "1" * len(word), lambda word: (0,) * 1001]
        for number, made in enumerate(makers):
            for turn in range(many) if number >= len(makers) - 7 else [number % many]:
                asked = []

                def box(word):
                    asked.append(word)
                    return truth.done(word) if len(asked) <= turn else made(word)
                self.refused(BadLook, "index", turn, learned, box, steps, 2)

    def test_what_a_box_raises(self):
        class Own(Exception):
            pass
        for error in (Own("x"), KeyError(1), ValueError("y"), BadLook(77), TooLarge(60), StopIteration(), BadStep(3)):
            for turn in (0, 1):
                asked = []

                def box(word):
                    asked.append(word)
                    if len(asked) > turn:
                        raise error
                    return word
                with self.assertRaises(type(error)) as caught:
                    learned(box, ["turn", "roll 1", "near 1"], 2)
                self.assertIs(caught.exception, error)

    def test_refused(self):
        box = Box("turn")
        for steps, most in ((["turn"] * 5, None), ([None] * 5, 1)):
            self.refused(TooMany, "most", 4, learned, box, steps, most)
        for most in (1, None, 3):
            self.refused(BadStep, "index", 1, learned, box, ["turn", "turn"], most)
            self.refused(BadStep, "index", 0, learned, box, ("x", None), most)
        for value in [*NO_INTEGERS, -1, 3]:
            self.refused(BadNumber, "number", value, learned, box, ["turn"], value)
        self.assertEqual(box.asked, [])

    def test_tables_that_are_refused(self):
        steps = ["deal", "sum 3 at 0 of 3", "near 1"]
        self.assertTrue(is_refused("deal then sum 3 at 0 of 3"))
        for text in ("deal then sum 3 at 0 of 3", "near 1 then deal", "near 1 then near 1"):
            self.check(text, steps, 2)

    def test_examples(self):
        box = Box("roll 2")
        self.assertEqual(learned(box, ["turn", "roll 1"], 2), (
            Program("roll 1 then roll 1"), (((1, 0), (1, 0)), ((1, 0, 0), (0, 0, 1)))))
        self.assertEqual(box.asked, [(1, 0), (1, 0, 0)])
        self.assertEqual(learned(box=Box("turn"), steps=["turn"], most=1)[0], Program("turn"))


if __name__ == "__main__":
    unittest.main()

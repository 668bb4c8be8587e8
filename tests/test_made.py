"""Point 19: tables are made in a moment, and are the same whatever way they are made in."""

import hashlib
import time
import unittest

from allwordlengths.errors import TooLarge
from allwordlengths.programs import Program
from allwordlengths.tables import Table
from made_tables import OTHERS, SLOWEST
from plain import program_texts

# A run of this file takes about a fifth of these seconds, or less.
SECONDS_FOR_ALL = 1.5
SECONDS_FOR_ONE = 0.08


def made(text):
    """The table of a program, or None if it is refused, and how many seconds of work it took."""
    program = Program(text)
    begun = time.process_time()
    try:
        table = Table(program)
    except TooLarge as error:
        return None, error, time.process_time() - begun
    return table, None, time.process_time() - begun


def answer_of(text):
    """What made_tables.py tells of a program."""
    table, error, _ = made(text)
    if table is None:
        return "TooLarge(%d)" % error.most
    parts = [(machine.letters, machine.paths, machine.ends, [machine.moves(letter) for letter in machine.letters])
             for machine in (table.machine, table.flip_machine)]
    digest = hashlib.sha256(repr(parts).encode()).hexdigest()[:16]
    return "%d %d %s" % (table.machine.states, table.flip_machine.states, digest)


class MadeTest(unittest.TestCase):
    def test_answers(self):
        for text, answer in SLOWEST + OTHERS:
            self.assertEqual(answer_of(text), answer, text)

    def test_all_in_a_moment(self):
        texts = [text for text, _ in OTHERS]
        self.assertGreater(len(texts), 150)
        self.assertLess(sum(made(text)[2] for text in texts), SECONDS_FOR_ALL)

    def test_each_in_a_moment(self):
        for text, _ in SLOWEST:
            self.assertLess(min(made(text)[2] for _ in range(3)), SECONDS_FOR_ONE, text)

    def test_those_that_are_refused(self):
        refused = [text for text in program_texts(911, 400, 5) if made(text)[0] is None]
        self.assertGreater(len(refused), 5)
        for text in refused:
            self.assertLess(min(made(text)[2] for _ in range(3)), SECONDS_FOR_ONE, text)


if __name__ == "__main__":
    unittest.main()

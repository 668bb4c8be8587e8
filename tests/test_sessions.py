"""The sessions of the document."""

import doctest
import unittest

SESSIONS = """
>>> from allwordlengths.programs import Program
>>> from allwordlengths.tables import Table
>>> table = Table(Program("turn"))
>>> [table.machine.paths, table.machine.ends, table.machine.moves("000")]
[('', '001'), (0, 1), ((), (1,))]
>>> [table.at(4, 10 ** 30 - 5, 10 ** 30), table.machine.value("001 011")]
[1, 1]
>>> total = Table(Program("sum 1"))
>>> [total.next_in_row(5, 10 ** 30, 7), total.row(5, 8, 3)]
[7, (5, 6, 7)]
>>> Table(Program("near 1 then near 1")) == Table(Program("near 2"))
True
"""


class SessionsTest(unittest.TestCase):
    def test_sessions(self):
        test = doctest.DocTestParser().get_doctest(SESSIONS, {}, "sessions", None, 0)
        result = doctest.DocTestRunner().run(test)
        self.assertEqual((result.attempted, result.failed), (8, 0))


if __name__ == "__main__":
    unittest.main()

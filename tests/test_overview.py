"""Promise 1: the short session of the document."""

import doctest
import unittest

SESSION = """
>>> from rowclash.tables import Table
>>> from rowclash.rules import Ignore, Replace
>>> from rowclash.passing import passing_orders, verdict
>>> from rowclash.replacing import fewest_left
>>> table = Table((1, 2), (2, 3), (3, 4))
>>> Ignore()(table, (1, 3, 2)).moved
(2, 3)
>>> Replace()(table, (1, 3, 2)).held
(2, 4)
>>> verdict(table)
('order', (3, 2, 1))
>>> passing_orders(table)
1
>>> fewest_left(table)
((2, 3), ((1,), (3,)))
>>> verdict(Table((1, 2), (2, 1)))
('ring', (1, 2))
>>> from rowclash.counting import ignoring_exactly
>>> from rowclash.ignoring import each_possible
>>> from rowclash.replacing import each_held
>>> table = Table((1, 5), (2, 5), (3, 1))
>>> [(rows, ignoring_exactly(table, rows)) for rows in each_possible(table)]
[((1,), 1), ((1, 3), 2), ((2,), 3)]
>>> list(each_held(table))
[(1, 5)]
"""


class Overview(unittest.TestCase):
    def test_the_session_of_the_document(self):
        test = doctest.DocTestParser().get_doctest(SESSION, {}, "overview", None, 0)
        result = doctest.DocTestRunner().run(test)
        self.assertEqual((result.attempted, result.failed), (17, 0))


if __name__ == "__main__":
    unittest.main()

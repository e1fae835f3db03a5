import unittest

from rowclash.checks import (
    are_different_keys, are_rows, is_ascending, is_integer, is_key, is_order, is_pair, is_set_of_rows, is_small,
)
from rowclash.tables import Table
from samples import MOST, NO_INTEGERS, NO_KEYS, NO_PAIRS


class Checks(unittest.TestCase):
    def test_integers(self):
        for thing in (0, 1, -1, MOST, -MOST, MOST + 1, 10 ** 59):
            self.assertIs(is_integer(thing), True, thing)
        for thing in NO_INTEGERS:
            self.assertIs(is_integer(thing), False, thing)

    def test_keys_have_at_most_30_digits(self):
        for thing in (0, 1, -1, int("9" * 30), -int("9" * 30), int("1" + "0" * 29)):
            self.assertIs(is_key(thing), True, thing)
        for thing in NO_KEYS + (int("1" + "0" * 30), -int("1" + "0" * 30)):
            self.assertIs(is_key(thing), False, thing)

    def test_small_integers_have_at_most_15_digits(self):
        for thing in (0, 1, -1, int("9" * 15), -int("9" * 15)):
            self.assertIs(is_small(thing), True, thing)
        for thing in NO_KEYS + (int("1" + "0" * 15), -int("1" + "0" * 15), MOST):
            self.assertIs(is_small(thing), False, thing)

    def test_pairs(self):
        for thing in ((1, 2), (1, 1), (-MOST, MOST)):
            self.assertIs(is_pair(thing), True, thing)
        for thing in NO_PAIRS:
            self.assertIs(is_pair(thing), False, thing)

    def test_different_keys(self):
        for thing in ((), (1,), (3, 1, 2), (MOST, -MOST), tuple(range(50))):
            self.assertIs(are_different_keys(thing), True, thing)
        for thing in (None, 1, "12", b"12", [1, 2], {1: 2}, (1, 1), (1, 2, 1), Table((1, 2))):
            self.assertIs(are_different_keys(thing), False, thing)
        for thing in NO_KEYS:
            self.assertIs(are_different_keys((1, thing)), False, thing)

    def test_sets_of_rows(self):
        table = Table((0, 5), (1, 5), (2, 9))
        for thing in ((), (0,), (1,), (0, 1), (0, 2), (0, 1, 2)):
            self.assertIs(is_set_of_rows(table, thing), True, thing)
        for thing in (None, 1, "", b"", [], [0, 1], {0: 1}, (1, 0), (0, 0), (5,), (0, 9), (0, 1, 2, 3), table):
            self.assertIs(is_set_of_rows(table, thing), False, thing)
        for thing in NO_KEYS:
            self.assertIs(is_set_of_rows(table, (0, thing)), False, thing)
            self.assertIs(is_set_of_rows(table, (thing, 2)), False, thing)

    def test_rows_in_any_order(self):
        table = Table((0, 5), (1, 5), (2, 9))
        for thing in ((), (0,), (2, 1), (1, 1), (2, 0, 1, 2, 0)):
            self.assertIs(are_rows(table, thing), True, thing)
        for thing in (None, 1, "", b"", [], [0, 1], {0: 1}, (5,), (0, 9), ((0,),), table):
            self.assertIs(are_rows(table, thing), False, thing)
        for thing in NO_KEYS:
            self.assertIs(are_rows(table, (0, thing)), False, thing)

    def test_ascending(self):
        for thing in ((), (3,), (-2, -1, 5), ((1,), (1, 2), (2,))):
            self.assertIs(is_ascending(thing), True, thing)
        for thing in ((1, 1), (2, 1), (1, 3, 2), ((1, 2), (1,)), ((1, 2), (1, 2))):
            self.assertIs(is_ascending(thing), False, thing)

    def test_orders(self):
        table = Table((0, 5), (1, 5), (2, 9))
        for thing in ((0, 1, 2), (2, 0, 1), (2, 1, 0)):
            self.assertIs(is_order(table, thing), True, thing)
        for thing in ((), (0, 1), (0, 1, 1), (0, 1, 2, 2), (0, 1, 9), [0, 1, 2], "012", None, (False, 1, 2), table):
            self.assertIs(is_order(table, thing), False, thing)
        self.assertIs(is_order(Table(), ()), True)


if __name__ == "__main__":
    unittest.main()

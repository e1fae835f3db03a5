"""Promise 130."""

import unittest

from itertools import combinations, permutations
from random import Random

from math import factorial

from model import all_small_tables, from_parts, keys_of, large_tables, small_tables, tables_to_go_through
from rowclash.counting import ignoring_exactly
from rowclash.failing import can_stop
from rowclash.ignoring import count_possible, each_possible, is_possible
from rowclash.passing import passing_orders, shows_verdict, verdict
from rowclash.replacing import can_be_left, fewest_left, most_left
from rowclash.rules import Abort, Fail, Ignore, Replace
from rowclash.tables import Table
from samples import line_of_rows


def tables_and_orders():
    """Small tables in all orders, and tables of 40 rows in some."""
    for rows in [*all_small_tables(3), *small_tables(4, 5)]:
        yield rows, list(permutations(keys_of(rows)))
    chance = Random(130)
    chained = from_parts([range(10), (30, 20, 25), range(40, 52)], (), range(60, 75))
    for rows in [*large_tables(10, 131), chained, line_of_rows(40)]:
        keys = keys_of(rows)
        orders = [tuple(chance.sample(keys, 40)) for _ in range(20)]
        if verdict(Table(*rows))[0] == "order":
            orders.append(verdict(Table(*rows))[1])
        yield rows, orders


def apart(rows):
    """Whether no two of the rows have a key in common, of their keys and new keys."""
    return all(not set(one) & set(other) for one, other in combinations(rows, 2))


class WhatHolds(unittest.TestCase):
    def test_in_an_order_that_passes_all_rules_have_the_same_outcome(self):
        passed = 0
        for rows, orders in tables_and_orders():
            table = Table(*rows)
            for order in orders:
                aborted = Abort()(table, order)
                self.assertIs(shows_verdict(table, ("order", order)), aborted.stop == ())
                if aborted.stop == ():
                    passed += 1
                    self.assertEqual(aborted.moved, tuple(key for key, new in rows if key != new))
                    for rule in (Fail(), Ignore(), Replace()):
                        self.assertEqual(rule(table, order), aborted)
        self.assertGreater(passed, 100)

    def test_a_statement_that_aborts_has_changed_nothing(self):
        for rows, orders in tables_and_orders():
            for order in orders:
                aborted = Abort()(Table(*rows), order)
                if aborted.stop != ():
                    self.assertEqual(aborted.ends, tuple((key, key) for key, _ in rows))

    def test_what_fail_moves_ignore_moves(self):
        for rows, orders in tables_and_orders():
            for order in orders:
                failed, ignored = Fail()(Table(*rows), order), Ignore()(Table(*rows), order)
                self.assertLessEqual(set(failed.moved), set(ignored.moved))
                self.assertEqual(failed.stop, Abort()(Table(*rows), order).stop)
                self.assertEqual(ignored.stop, ())

    def test_ignore_can_move_all_rows_that_are_not_still_if_and_only_if_some_order_passes(self):
        for rows in [*all_small_tables(3), *small_tables(4, 3)]:
            table = Table(*rows)
            moving = tuple(key for key, new in rows if key != new)
            possible = any(Ignore()(table, order).moved == moving for order in permutations(keys_of(rows)))
            self.assertIs(possible, passing_orders(table) > 0)
            self.assertIs(is_possible(table, moving), possible)
        passing = from_parts([range(10), (30, 20, 25), range(40, 52)], (), range(60, 75))
        told = [passing, line_of_rows(40), tuple(zip(range(40), [*range(1, 40), 0])), *large_tables(10, 131)]
        for rows in told + [rows[:at] + rows[at + 1:] for rows in told for at in (0, 7, 39)]:
            table = Table(*rows)
            moving = tuple(key for key, new in rows if key != new)
            self.assertIs(is_possible(table, moving), passing_orders(table) > 0)

    def test_the_numbers_of_all_possible_sets_add_up_to_that_of_all_orders(self):
        for rows in [*tables_to_go_through(), *large_tables(10, 131)]:
            table = Table(*rows)
            if count_possible(table) <= 1000:
                numbers = [ignoring_exactly(table, moved) for moved in each_possible(table)]
                self.assertEqual(sum(numbers), factorial(len(rows)))

    def test_what_the_rules_do_is_what_can_be(self):
        for rows, orders in tables_and_orders():
            table = Table(*rows)
            for order in orders[::5]:
                self.assertIs(is_possible(table, Ignore()(table, order).moved), True)
                self.assertIs(can_be_left(table, Replace()(table, order).left), True)
                failed = Fail()(table, order)
                if failed.stop:
                    self.assertIs(can_stop(table, failed.moved, failed.stop[0]), True)

    def test_how_many_rows_replace_leaves(self):
        for rows, orders in tables_and_orders():
            sets = [()] + [(row,) for row in rows]
            if len(rows) < 5:
                sets = [part for many in range(len(rows) + 1) for part in combinations(rows, many)]
            fewest = max(len(part) for part in sets if apart(part))
            most = len({new for _, new in rows})
            table = Table(*rows)
            # Rows of which no two have a key in common, of which a table of 40 rows may have many.
            single = [piece for piece in fewest_left(table)[1] if len(piece) == 1]
            self.assertTrue(apart([(key, table[key]) for key, in single]))
            fewest = max(fewest, len(single))
            self.assertLessEqual(fewest, len(fewest_left(table)[0]))
            self.assertLessEqual(len(most_left(table)), most)
            for order in orders:
                outcome = Replace()(Table(*rows), order)
                self.assertEqual(outcome.stop, ())
                self.assertLessEqual(fewest, len(outcome.left))
                self.assertLessEqual(len(outcome.left), most)


if __name__ == "__main__":
    unittest.main()

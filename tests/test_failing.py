import unittest

from random import Random

from model import execute, from_parts, keys_of, large_tables, moved_in, results, sets_of_rows, tables_to_go_through
from rowclash.errors import Impossible, Missing, NotRows, NotTable
from rowclash.failing import can_stop, order_stopping, stops
from rowclash.rules import Fail
from rowclash.tables import Table
from rowclash.waits import rings
from samples import NO_ROWS, NO_SETS_OF_ROWS, NO_TABLES, line_of_rows

SMALL = tables_to_go_through()
MIXED = from_parts([(1, 2, 3, 4), (9, 8)], [(10, 12, 11), (13, 14)], (20, 21, 22)) + (
    (30, 10), (31, 30), (32, 20), (40, 90), (41, 90), (42, 90), (43, 41), (44, 41), (45, 44), (46, 42), (50, 91),
)
LARGE = (
    MIXED + tuple((key, 200 + key) for key in range(60, 75)), line_of_rows(40),
    tuple(zip(range(40), [*range(1, 40), 0])), tuple((key, 99) for key in range(40)),
    tuple((key, key) for key in range(40)), tuple((key, 0) for key in range(40)),
    tuple((key, key // 2 - 1) for key in range(40)),
) + tuple(large_tables(6, 90))


def stops_by_words(rows, moved, row):
    """Whether a statement can stop so, by the conditions of the document."""
    wanted = dict(rows)
    if any(wanted[key] == key or wanted[key] in wanted and wanted[key] not in moved for key in moved):
        return False
    if any(set(ring) <= set(moved) for ring in rings(Table(*rows))):
        return False
    news = [wanted[key] for key in moved]
    if len(set(news)) != len(news) or wanted[row] == row or row in moved:
        return False
    return wanted[row] in wanted and wanted[row] not in moved or wanted[row] in news


class Stopping(unittest.TestCase):
    """Promise 90: can_stop, order_stopping."""

    def assert_stops(self, rows, moved, row):
        table = Table(*rows)
        self.assertIs(can_stop(table, moved, row), True)
        order = order_stopping(table, moved, row)
        self.assertIsInstance(order, tuple)
        self.assertEqual(sorted(order), list(keys_of(rows)))
        stop, ends = execute(rows, order, "fail")
        self.assertEqual((stop[0], moved_in(rows, ends)), (row, moved))
        self.assertEqual(Fail()(table, order).stop, stop)

    def assert_never_stops(self, rows, moved, row):
        table = Table(*rows)
        self.assertIs(can_stop(table, moved, row), False)
        with self.assertRaises(Impossible):
            order_stopping(table, moved, row)

    def test_all_sets_and_rows_of_small_tables_against_all_orders(self):
        for rows in SMALL:
            stopped = results(rows).stopped
            for moved in sets_of_rows(rows):
                for row in keys_of(rows):
                    if (moved, row) in stopped:
                        self.assert_stops(rows, moved, row)
                    else:
                        self.assert_never_stops(rows, moved, row)

    def test_forty_rows(self):
        chance = Random(91)
        for rows in LARGE:
            self.assertEqual(len(rows), 40)
            keys, found = keys_of(rows), set()
            for _ in range(30):
                stop, ends = execute(rows, tuple(chance.sample(keys, 40)), "fail")
                if stop:
                    found.add((moved_in(rows, ends), stop[0]))
            for moved, row in sorted(found):
                self.assert_stops(rows, moved, row)
                changed, other = tuple(sorted({*moved} ^ {chance.choice(keys)})), chance.choice(keys)
                for part, at in ((changed, row), (moved, other), (changed, other)):
                    if stops_by_words(rows, part, at):
                        self.assert_stops(rows, part, at)
                    else:
                        self.assert_never_stops(rows, part, at)

    def test_forty_rows_in_a_chain(self):
        rows = line_of_rows(40)
        for many in range(39):
            moved = tuple(range(41 - many, 41))
            for row in range(1, 40 - many):
                self.assertIs(can_stop(Table(*rows), moved, row), True)
            self.assert_stops(rows, moved, 39 - many)
            self.assert_never_stops(rows, moved, 40 - many)
        self.assert_never_stops(rows, tuple(range(2, 41)), 1)

    def test_each_condition(self):
        for rows, moved, row in (
            (((1, 1), (2, 1)), (1,), 2), (((1, 2), (2, 1), (3, 1)), (1, 2), 3), (((1, 2), (2, 9), (3, 2)), (1,), 3),
            (((1, 9), (2, 9), (3, 9)), (1, 2), 3), (((1, 1), (2, 1)), (), 1), (((1, 9), (2, 9)), (1,), 1),
            (((1, 9), (2, 9)), (), 1), (((1, 2), (2, 9)), (2,), 1), (((1, 2), (2, 9)), (), 2),
        ):
            self.assert_never_stops(rows, moved, row)
        for rows, moved, row in (
            (((1, 1), (2, 1)), (), 2), (((1, 2), (2, 1)), (), 1), (((1, 2), (2, 9), (3, 2)), (1, 2), 3),
            (((1, 9), (2, 9)), (1,), 2), (((1, 2), (2, 9)), (), 1),
        ):
            self.assert_stops(rows, moved, row)

    def test_by_name(self):
        table = Table((1, 2), (2, 3))
        self.assertIs(can_stop(table=table, rows=(), key=1), True)
        self.assertIs(can_stop(key=1, rows=(2,), table=table), False)
        self.assertEqual(order_stopping(key=1, rows=(), table=table), (1, 2))


class Stops(unittest.TestCase):
    """Promise 90: stops."""

    def test_small_tables_against_all_orders(self):
        for rows in SMALL:
            self.assertEqual(stops(Table(*rows)), tuple(sorted({row for _, row in results(rows).stopped})))

    def test_forty_rows(self):
        for rows in LARGE:
            table = Table(*rows)
            # A row can stop a statement at once, or behind just the rows that one competing row needs.
            expected = []
            for row, new in rows:
                sets = [()] + [(other,) for other, its in rows if its == new and other != row]
                if any(stops_by_words(rows, moved, row) for moved in sets):
                    expected.append(row)
            self.assertEqual(stops(table), tuple(expected))
        self.assertEqual(stops(Table(*line_of_rows(40))), tuple(range(1, 40)))
        self.assertEqual(stops(Table(*((key, 99) for key in range(40)))), tuple(range(40)))
        self.assertEqual(stops(Table(*((key, 0) for key in range(40)))), tuple(range(1, 40)))

    def test_by_name_and_no_rows(self):
        self.assertEqual(stops(table=Table((1, 2), (2, 3))), (1,))
        self.assertEqual(stops(Table()), ())
        self.assertEqual(stops(Table((1, 2), (2, 2), (3, 3), (5, 6))), (1,))


class WrongArguments(unittest.TestCase):
    """Promise 3: NotTable, NotRows, Missing, Impossible, in this order."""

    def test_no_table(self):
        for thing in NO_TABLES:
            with self.subTest(thing=thing), self.assertRaises(NotTable):
                stops(thing)
            for function in (can_stop, order_stopping):
                for rows, key in (((), 1), (None, 1), ((), None), (None, None)):
                    with self.subTest(thing=thing), self.assertRaises(NotTable):
                        function(thing, rows, key)

    def test_no_set_of_rows(self):
        for thing in NO_SETS_OF_ROWS:
            for function in (can_stop, order_stopping):
                for key in (1, 2, 7, None):
                    with self.subTest(thing=thing), self.assertRaises(NotRows):
                        function(Table((1, 2), (2, 9)), thing, key)

    def test_missing(self):
        for thing in NO_ROWS:
            for function in (can_stop, order_stopping):
                for rows in ((), (1,), (2,), (1, 2)):
                    with self.subTest(thing=thing), self.assertRaises(Missing):
                        function(Table((1, 2), (2, 2)), rows, thing)

    def test_the_table_stays_as_it_is(self):
        table = Table(*MIXED)
        self.assertEqual(stops(table), stops(table))
        self.assertEqual(order_stopping(table, (3, 4), 1), order_stopping(table, (3, 4), 1))
        self.assertEqual(can_stop(table, (3, 4), 1), can_stop(table, (3, 4), 1))
        self.assertEqual(table, Table(*MIXED))


if __name__ == "__main__":
    unittest.main()

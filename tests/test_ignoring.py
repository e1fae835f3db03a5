import inspect
import unittest

from itertools import product

from model import (
    execute, from_parts, keys_of, large_tables, moved_in, path_of, results, sets_of_rows, tables_to_go_through,
)
from rowclash.errors import Impossible, Missing, NotRows, NotTable, TooMany
from rowclash.ignoring import (
    count_possible, each_possible, fewest_moved, is_possible, most_moved, move_fate, order_moving,
)
from rowclash.rules import Ignore
from rowclash.tables import Table
from samples import NO_ROWS, NO_SETS_OF_ROWS, NO_TABLES, line_of_rows

SMALL = tables_to_go_through()
# Chains of 4, 3 and 2 rows and single rows to free keys, a tree, rings, one of them with rows that lead into it,
# still rows, one of them wanted, and competing rows: 40 in all.
MIXED = from_parts([(1, 2, 3, 4), (5, 6, 7), (9, 8)], [(10, 12, 11), (13, 14)], (20, 21, 22)) + (
    (30, 10), (31, 30), (32, 20), (33, 32), (40, 90), (41, 90), (42, 90), (43, 41), (44, 41), (45, 44), (46, 42),
    (50, 51), (51, 52), (52, 50), (60, 61), (61, 91), (62, 91), (63, 60), (64, 60), (65, 92), (66, 66), (67, 66), (68, 66),
)
LARGE = (
    MIXED, line_of_rows(40), tuple((key, 99) for key in range(40)), tuple((key, key) for key in range(40)),
    tuple(zip(range(40), [*range(1, 40), 0])), tuple((key, (key + 1) // 2 + 100) for key in range(40)),
    tuple((key, key // 2 - 1) for key in range(40)),
) + tuple(large_tables(6, 60))


def trees_of(rows):
    """For each free key that is wanted the set of rows of each path that ends there."""
    wanted, found = dict(rows), {}
    for row in wanted:
        steps, end = path_of(rows, row)
        if end == "free":
            found.setdefault(wanted[steps[-1]], []).append(tuple(sorted(steps)))
    return list(found.values())


def possible_sets(rows):
    return sorted(tuple(sorted(sum(parts, ()))) for parts in product(*trees_of(rows)))


def moved_by(rows, order):
    return moved_in(rows, execute(rows, order, "ignore")[1])


class Possible(unittest.TestCase):
    """Promises 60 and 61: is_possible, order_moving."""

    def test_all_sets_of_rows_of_small_tables_against_all_orders(self):
        for rows in SMALL:
            table, ignored = Table(*rows), results(rows).ignored
            for moved in sets_of_rows(rows):
                self.assertIs(is_possible(table, moved), moved in ignored, (rows, moved))
                if moved not in ignored:
                    with self.assertRaises(Impossible):
                        order_moving(table, moved)
                    continue
                order = order_moving(table, moved)
                self.assertIsInstance(order, tuple)
                self.assertEqual(sorted(order), list(keys_of(rows)))
                self.assertEqual(moved_by(rows, order), moved)

    def test_forty_rows(self):
        for rows in LARGE:
            table = Table(*rows)
            self.assertEqual(len(table), 40)
            parts = trees_of(rows)
            for choose in (min, max, lambda paths: max(paths, key=len), lambda paths: min(paths, key=len)):
                moved = tuple(sorted(sum((choose(paths) for paths in parts), ())))
                self.assertIs(is_possible(table, moved), True)
                order = order_moving(table, moved)
                self.assertEqual(sorted(order), list(keys_of(rows)))
                self.assertEqual(moved_by(rows, order), moved)
                self.assertEqual(Ignore()(table, order).moved, moved)

    def test_changed_sets_of_forty_rows(self):
        for rows in LARGE:
            table = Table(*rows)
            if count_possible(table) > 9999:
                continue
            possible = possible_sets(rows)
            for row in keys_of(rows):
                changed = tuple(sorted({*possible[0]} ^ {row}))
                self.assertIs(is_possible(table, changed), changed in possible)
                if changed not in possible:
                    with self.assertRaises(Impossible):
                        order_moving(table, changed)

    def test_each_condition(self):
        self.assertIs(is_possible(Table((1, 1)), (1,)), False)
        self.assertIs(is_possible(Table((1, 2), (2, 1)), (1, 2)), False)
        self.assertIs(is_possible(Table((1, 2), (2, 1)), ()), True)
        self.assertIs(is_possible(Table((1, 2), (2, 9)), (1,)), False)
        self.assertIs(is_possible(Table((1, 2), (2, 9)), ()), False)
        self.assertIs(is_possible(Table((1, 9), (2, 9)), (1, 2)), False)
        self.assertIs(is_possible(Table((1, 2), (2, 3), (3, 2)), (1, 2, 3)), False)
        self.assertIs(is_possible(Table((1, 2), (2, 2)), (1,)), False)
        self.assertIs(is_possible(Table((1, 2), (2, 2)), (1, 2)), False)

    def test_no_rows(self):
        self.assertIs(is_possible(Table(), ()), True)
        self.assertEqual(order_moving(Table(), ()), ())

    def test_by_name(self):
        table = Table((1, 5), (2, 5), (3, 1))
        self.assertIs(is_possible(table=table, rows=(1, 3)), True)
        self.assertIs(is_possible(rows=(3,), table=table), False)
        self.assertEqual(moved_by(table.rows, order_moving(rows=(1,), table=table)), (1,))


class Each(unittest.TestCase):
    """Promise 61: count_possible, each_possible."""

    def test_small_tables_against_all_orders(self):
        for rows in SMALL:
            table, ignored = Table(*rows), results(rows).ignored
            self.assertEqual(count_possible(table), len(ignored))
            self.assertEqual(list(each_possible(table)), sorted(ignored))

    def test_forty_rows(self):
        for rows in LARGE:
            table, many = Table(*rows), 1
            for paths in trees_of(rows):
                many *= len(paths)
            self.assertEqual(count_possible(table), many)
            if many <= 1000:
                self.assertEqual(list(each_possible(table)), possible_sets(rows))
                continue
            with self.assertRaises(TooMany) as caught:
                next(each_possible(table))
            self.assertEqual((caught.exception.many, caught.exception.most), (many, 1000))

    def test_the_session_of_the_document(self):
        table = Table((1, 5), (2, 5), (3, 1))
        self.assertEqual(list(each_possible(table)), [(1,), (1, 3), (2,)])
        self.assertEqual(list(each_possible(table=table)), [(1,), (1, 3), (2,)])
        self.assertEqual(count_possible(table=table), 3)

    def test_no_rows(self):
        self.assertEqual(count_possible(Table()), 1)
        self.assertEqual(list(each_possible(Table())), [()])

    def test_just_a_thousand(self):
        chains = [range(start, start + 10) for start in (1, 21, 41)]
        rows = from_parts(chains, [(70, 72, 71)], (80, 81, 82, 83, 84, 85, 86))
        found = list(each_possible(Table(*rows)))
        self.assertEqual((len(rows), len(found), len(set(found))), (40, 1000, 1000))
        self.assertEqual(found, sorted(found))
        self.assertEqual(found, possible_sets(rows))

    def test_more_than_a_thousand(self):
        for lengths, many in (((7, 11, 13), 1001), ((2,) * 10, 1024), ((4,) * 10, 4 ** 10), ((3,) * 13, 3 ** 13)):
            starts = [-100 * at for at in range(1, len(lengths) + 1)]
            table = Table(*from_parts([range(start, start + length) for start, length in zip(starts, lengths)]))
            self.assertEqual(count_possible(table), many)
            with self.assertRaises(TooMany) as caught:
                next(each_possible(table))
            self.assertEqual((caught.exception.many, caught.exception.most), (many, 1000))

    def test_it_is_a_generator(self):
        found = each_possible(Table((1, 9), (2, 9)))
        self.assertTrue(inspect.isgenerator(found))
        self.assertEqual([next(found), next(found), next(found, None)], [(1,), (2,), None])


class MostAndFewest(unittest.TestCase):
    """Promise 61: most_moved, fewest_moved."""

    def test_small_tables_against_all_orders(self):
        for rows in SMALL:
            table, ignored = Table(*rows), results(rows).ignored
            self.assertEqual(most_moved(table), min(ignored, key=lambda moved: (-len(moved), moved)))
            self.assertEqual(fewest_moved(table), min(ignored, key=lambda moved: (len(moved), moved)))

    def test_forty_rows(self):
        for rows in LARGE:
            if count_possible(Table(*rows)) < 9999:
                possible = possible_sets(rows)
                self.assertEqual(most_moved(Table(*rows)), min(possible, key=lambda moved: (-len(moved), moved)))
                self.assertEqual(fewest_moved(Table(*rows)), min(possible, key=lambda moved: (len(moved), moved)))

    def test_the_first_of_several(self):
        table = Table((1, 9), (2, 9), (3, 2), (4, 1), (5, 4), (6, 3))
        self.assertEqual(most_moved(table), (1, 4, 5))
        self.assertEqual(fewest_moved(table), (1,))
        table = Table((9, 20), (8, 20), (3, 9), (4, 8), (7, 21), (6, 21))
        self.assertEqual(most_moved(table), (3, 6, 9))
        self.assertEqual(fewest_moved(table), (6, 8))

    def test_by_name_and_no_rows(self):
        self.assertEqual(most_moved(table=Table((1, 2), (2, 3))), (1, 2))
        self.assertEqual(fewest_moved(table=Table((1, 2), (2, 3))), (2,))
        self.assertEqual((most_moved(Table()), fewest_moved(Table())), ((), ()))
        self.assertEqual(most_moved(Table(*line_of_rows(40))), tuple(range(1, 41)))
        self.assertEqual(fewest_moved(Table(*line_of_rows(40))), (40,))


class Fates(unittest.TestCase):
    """Promise 61: move_fate."""

    def test_each_row_of_small_tables_against_all_orders(self):
        for rows in SMALL:
            table, told = Table(*rows), results(rows)
            for row in keys_of(rows):
                self.assertEqual(move_fate(table, row), told.fate(told.ignoring[row]))

    def test_forty_rows(self):
        for rows in LARGE:
            if count_possible(Table(*rows)) < 9999:
                possible = possible_sets(rows)
                for row in keys_of(rows):
                    inside = sum(row in moved for moved in possible)
                    fate = "always" if inside == len(possible) else "sometimes" if inside else "never"
                    self.assertEqual(move_fate(Table(*rows), row), fate)
        for row, fate in ((4, "always"), (3, "sometimes"), (30, "never"), (20, "never"), (40, "sometimes")):
            self.assertEqual(move_fate(Table(*MIXED), row), fate)

    def test_by_name(self):
        self.assertEqual(move_fate(table=Table((1, 2)), key=1), "always")
        self.assertEqual(move_fate(key=1, table=Table((1, 1))), "never")


class WrongArguments(unittest.TestCase):
    """Promise 3: NotTable, NotRows, Missing, Impossible."""

    def test_no_table(self):
        for thing in NO_TABLES:
            for call in (
                lambda: is_possible(thing, ()), lambda: is_possible(thing, None), lambda: order_moving(thing, ()),
                lambda: order_moving(thing, None), lambda: count_possible(thing), lambda: next(each_possible(thing)),
                lambda: most_moved(thing), lambda: fewest_moved(thing), lambda: move_fate(thing, 1),
                lambda: move_fate(thing, None),
            ):
                with self.subTest(thing=thing), self.assertRaises(NotTable):
                    call()

    def test_no_set_of_rows(self):
        for table in (Table((1, 2), (2, 9)), Table((1, 1), (2, 2)), Table((1, 2), (2, 1))):
            for rows in NO_SETS_OF_ROWS:
                for function in (is_possible, order_moving):
                    with self.subTest(rows=rows), self.assertRaises(NotRows):
                        function(table, rows)

    def test_missing(self):
        for thing in NO_ROWS:
            with self.subTest(thing=thing), self.assertRaises(Missing):
                move_fate(Table((1, 2), (2, 9)), thing)

    def test_the_table_stays_as_it_is(self):
        table = Table(*MIXED)
        for function in (
            count_possible, most_moved, fewest_moved, lambda table: order_moving(table, most_moved(table)),
            lambda table: is_possible(table, (1,)), lambda table: move_fate(table, 1),
        ):
            self.assertEqual(function(table), function(table))
        self.assertEqual(table, Table(*MIXED))


if __name__ == "__main__":
    unittest.main()

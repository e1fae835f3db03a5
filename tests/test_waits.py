import unittest

from model import all_rings, all_small_tables, from_parts, keys_of, large_tables, path_of, small_tables
from rowclash.errors import Missing, NotTable
from rowclash.tables import Table
from rowclash.waits import groups, path, rings, trees
from samples import ANYTHING, MOST, NO_KEYS, NO_TABLES, line_of_rows


class Paths(unittest.TestCase):
    """Promises 30 and 31: path."""

    TABLE = Table((1, 2), (2, 3), (3, 9), (4, 5), (5, 5), (6, 7), (7, 8), (8, 7), (10, 10))

    def test_each_end(self):
        for key, expected in (
            (1, ((1, 2, 3), "free")), (2, ((2, 3), "free")), (3, ((3,), "free")),
            (4, ((4, 5), "still")), (5, ((5,), "still")), (10, ((10,), "still")),
            (7, ((7, 8), "ring")), (8, ((8, 7), "ring")),
            (6, ((6, 7, 8), "ring")),
        ):
            self.assertEqual(path(self.TABLE, key), expected)
            self.assertEqual(path(table=self.TABLE, key=key), expected)
            self.assertEqual(path(key=key, table=self.TABLE), expected)

    def test_a_row_that_leads_into_a_ring_at_any_of_its_rows(self):
        table = Table((1, 2), (2, 3), (3, 1), (0, 3), (9, 0))
        self.assertEqual(path(table, 9), ((9, 0, 3, 1, 2), "ring"))
        self.assertEqual(path(table, 2), ((2, 3, 1), "ring"))

    def test_small_tables(self):
        for rows in all_small_tables(4):
            table = Table(*rows)
            for key in keys_of(rows):
                self.assertEqual(path(table, key), path_of(rows, key))

    def test_tables_of_forty_rows(self):
        self.assertEqual(path(Table(*line_of_rows(40)), 1), (tuple(range(1, 41)), "free"))
        ring = Table(*line_of_rows(39), (40, 1))
        self.assertEqual(path(ring, 5), ((*range(5, 41), *range(1, 5)), "ring"))
        self.assertEqual(path(Table(*line_of_rows(39), (40, 40)), 2), (tuple(range(2, 41)), "still"))
        for rows in large_tables(20, 30):
            for key in keys_of(rows):
                self.assertEqual(path(Table(*rows), key), path_of(rows, key))

    def test_missing(self):
        table = Table((0, 5), (1, 0))
        for thing in ANYTHING + (5, 2, -1, (0,), [1], "0", MOST):
            if thing != 0 and thing != 1 or isinstance(thing, bool):
                with self.subTest(thing=thing), self.assertRaises(Missing):
                    path(table, thing)
        with self.assertRaises(Missing):
            path(Table(), 0)

    def test_no_table_comes_before_missing(self):
        for thing in NO_TABLES:
            with self.subTest(thing=thing), self.assertRaises(NotTable):
                path(thing, 1)
        with self.assertRaises(NotTable):
            path(None, None)


class Rings(unittest.TestCase):
    """Promises 30 and 31: rings."""

    def test_rings(self):
        self.assertEqual(rings(Table((1, 2), (2, 3), (3, 1))), ((1, 2, 3),))
        self.assertEqual(rings(Table((3, 1), (1, 2), (2, 3))), ((1, 2, 3),))
        self.assertEqual(rings(Table((1, 3), (3, 2), (2, 1))), ((1, 3, 2),))
        self.assertEqual(rings(table=Table((1, 2), (2, 1))), ((1, 2),))
        self.assertEqual(rings(Table()), ())
        self.assertEqual(rings(Table((1, 1), (2, 2), (3, 2), (4, 9))), ())

    def test_rows_that_lead_into_a_ring_are_not_in_it(self):
        self.assertEqual(rings(Table((0, 1), (1, 2), (2, 1), (3, 2), (4, 0))), ((1, 2),))

    def test_several_rings_are_ascending(self):
        table = Table((5, 7), (7, 5), (-2, 9), (9, 6), (6, -2), (1, 8), (8, 1))
        self.assertEqual(rings(table), ((-2, 9, 6), (1, 8), (5, 7)))

    def test_small_tables(self):
        for rows in [*all_small_tables(4), *small_tables(5, 11)]:
            self.assertEqual(list(rings(Table(*rows))), all_rings(rows))

    def test_tables_of_forty_rows(self):
        self.assertEqual(rings(Table(*line_of_rows(39), (40, 1))), (tuple(range(1, 41)),))
        pairs = tuple((key, 39 - key) for key in range(40))
        self.assertEqual(rings(Table(*pairs)), tuple((key, 39 - key) for key in range(20)))
        rows = from_parts([range(8)], [range(20, 29), range(15, 19), range(29, 36)], range(8, 12))
        self.assertEqual(rings(Table(*rows)), (tuple(range(15, 19)), tuple(range(20, 29)), tuple(range(29, 36))))
        for rows in large_tables(20, 31):
            wanted = dict(rows)
            found = rings(Table(*rows))
            for ring in found:
                self.assertEqual(ring[0], min(ring))
                self.assertEqual([wanted[row] for row in ring], [*ring[1:], ring[0]])
            inside = {row for row in wanted if path_of(rows, row)[1] == "ring"}
            for row in sorted(inside):
                steps = path_of(rows, row)[0]
                if wanted[steps[-1]] != row:
                    inside.discard(row)
            self.assertEqual(sorted(row for ring in found for row in ring), sorted(inside))
            self.assertEqual(list(found), sorted(found))


class Groups(unittest.TestCase):
    """Promises 30 and 31: groups."""

    def test_groups(self):
        self.assertEqual(groups(Table((1, 5), (2, 5), (3, 1))), ((1, 2),))
        self.assertEqual(groups(Table((3, 5), (1, 5), (2, 5), (4, 6))), ((1, 2, 3),))
        self.assertEqual(groups(table=Table((1, 2), (2, 3))), ())
        self.assertEqual(groups(Table()), ())

    def test_still_rows_are_in_groups(self):
        self.assertEqual(groups(Table((1, 2), (2, 2))), ((1, 2),))
        self.assertEqual(groups(Table((1, 1), (2, 2), (3, 1))), ((1, 3),))

    def test_the_sets_are_ascending_not_the_keys_that_they_want(self):
        self.assertEqual(groups(Table((1, 9), (2, 7), (3, 7), (4, 9))), ((1, 4), (2, 3)))
        self.assertEqual(groups(Table((1, 7), (2, 9), (3, 9), (4, 7), (5, 9))), ((1, 4), (2, 3, 5)))

    def test_small_and_large_tables(self):
        for rows in [*all_small_tables(4), *large_tables(20, 32)]:
            news = sorted({new for _, new in rows})
            sets = [tuple(sorted(key for key, other in rows if other == new)) for new in news]
            self.assertEqual(list(groups(Table(*rows))), sorted(each for each in sets if len(each) > 1))


class Trees(unittest.TestCase):
    """Promises 30 and 31: trees."""

    def test_trees(self):
        self.assertEqual(trees(Table((1, 2), (2, 3), (3, 4))), ((4, (1, 2, 3)),))
        self.assertEqual(trees(Table((1, 5), (2, 5), (3, 1))), ((5, (1, 2, 3)),))
        self.assertEqual(trees(table=Table((3, 9), (1, 3), (2, -4), (5, 3))), ((-4, (2,)), (9, (1, 3, 5))))
        self.assertEqual(trees(Table()), ())

    def test_no_trees_of_still_rows_and_rings(self):
        self.assertEqual(trees(Table((1, 1), (2, 1), (3, 4), (4, 3), (5, 4))), ())
        self.assertEqual(trees(Table((1, 1), (3, 4), (4, 3), (6, 7), (5, 6))), ((7, (5, 6)),))

    def test_small_and_large_tables(self):
        for rows in [*all_small_tables(4), *large_tables(20, 33)]:
            wanted = dict(rows)
            expected = {}
            for key in keys_of(rows):
                steps, end = path_of(rows, key)
                if end == "free":
                    expected.setdefault(wanted[steps[-1]], []).append(key)
            self.assertEqual(
                trees(Table(*rows)), tuple((key, tuple(expected[key])) for key in sorted(expected)),
            )

    def test_tables_of_forty_rows(self):
        self.assertEqual(trees(Table(*line_of_rows(40))), ((41, tuple(range(1, 41))),))
        star = tuple((key, 99) for key in range(40))
        self.assertEqual(trees(Table(*star)), ((99, tuple(range(40))),))


class WrongArguments(unittest.TestCase):
    def test_no_table(self):
        for function in (rings, groups, trees):
            for thing in NO_TABLES:
                with self.subTest(thing=thing), self.assertRaises(NotTable):
                    function(thing)

    def test_the_table_stays_as_it_is_and_equal_arguments_give_equal_results(self):
        table = Table((1, 2), (2, 1), (3, 5), (4, 5), (6, 6))
        for function in (rings, groups, trees):
            first = function(table)
            self.assertEqual(function(table), first)
            self.assertIsInstance(first, tuple)
        self.assertEqual(path(table, 3), path(table, 3))
        self.assertEqual(table, Table((1, 2), (2, 1), (3, 5), (4, 5), (6, 6)))
        found = rings(table)
        table[1] = 7
        self.assertEqual((found, rings(table)), (((1, 2),), ()))

    def test_all_keys_of_no_kind_are_missing(self):
        for thing in NO_KEYS:
            with self.subTest(thing=thing), self.assertRaises(Missing):
                path(Table((0, 1), (1, 2)), thing)


if __name__ == "__main__":
    unittest.main()

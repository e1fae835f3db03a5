import unittest

from fractions import Fraction
from itertools import permutations
from math import factorial

from model import (
    all_rings, from_parts, keys_of, large_tables, moving_with_replace, results, sets_of_rows, tables_to_go_through,
)
from rowclash.counting import ignoring_exactly, ignoring_moves, replacing_leaves, replacing_moves
from rowclash.errors import Missing, NotRows, NotTable, Ringed
from rowclash.ignoring import count_possible, each_possible, move_fate
from rowclash.replacing import left_fate
from rowclash.rules import Replace
from rowclash.tables import Table
from samples import NO_ROWS, NO_SETS_OF_ROWS, NO_TABLES, line_of_rows

SMALL = tables_to_go_through()
# Six and seven rows in trees, with still rows, without rings.
TREES = (
    ((1, 9), (2, 1), (3, 1), (4, 2), (5, 2), (6, 3)), ((1, 9), (2, 9), (3, 1), (4, 1), (5, 2), (6, 5)),
    ((1, 1), (2, 1), (3, 2), (4, 2), (5, 4), (6, 4)), ((1, 1), (2, 1), (3, 1), (4, 2), (5, 3), (6, 9)),
    ((1, 9), (2, 9), (3, 9), (4, 1), (5, 4), (6, 2), (7, 2)), ((1, 1), (2, 1), (3, 2), (4, 9), (5, 9), (6, 4), (7, 6)),
)
ALL = factorial(40)


def share(many, of):
    """What so many of the orders of so many rows are as a number of the orders of 40 rows."""
    found = Fraction(many * ALL, factorial(of))
    assert found.denominator == 1
    return int(found)


def with_others(rows, others):
    """The rows, and others, with keys from 1000 on, that have nothing to do with them, 40 in all."""
    return tuple(rows) + tuple(others)[:40 - len(rows)]


OTHERS = (
    tuple((key, key) for key in range(1000, 1040)), line_of_rows(40, 1000), tuple((key, 999) for key in range(1000, 1040)),
    tuple((key, (key - 1000) // 3 + 999) for key in range(1000, 1040)),
)


class Ignoring(unittest.TestCase):
    """Promise 80: ignoring_moves, ignoring_exactly."""

    def test_small_tables_against_all_orders(self):
        for rows in SMALL:
            table, told = Table(*rows), results(rows)
            for row in keys_of(rows):
                self.assertEqual(ignoring_moves(table, row), told.ignoring[row], (rows, row))
            for moved in sets_of_rows(rows):
                self.assertEqual(ignoring_exactly(table, moved), told.ignored[moved], (rows, moved))

    def test_tables_in_trees_against_all_orders(self):
        for rows in TREES:
            table, told = Table(*rows), results(rows)
            for row in keys_of(rows):
                self.assertEqual(ignoring_moves(table, row), told.ignoring[row])
            for moved in told.ignored:
                self.assertEqual(ignoring_exactly(table, moved), told.ignored[moved])

    def test_the_session_of_the_document(self):
        table = Table((1, 5), (2, 5), (3, 1))
        found = [(rows, ignoring_exactly(table, rows)) for rows in each_possible(table)]
        self.assertEqual(found, [((1,), 1), ((1, 3), 2), ((2,), 3)])

    def test_forty_rows_in_a_chain(self):
        table = Table(*line_of_rows(40))
        for many in range(1, 41):
            # The last rows must be visited one after the other, the one before them not behind them.
            moves = ALL // factorial(many)
            self.assertEqual(ignoring_moves(table, 41 - many), moves)
            exactly = moves - ALL // factorial(many + 1) if many < 40 else moves
            self.assertEqual(ignoring_exactly(table, tuple(range(41 - many, 41))), exactly)

    def test_forty_rows_that_compete(self):
        table = Table(*((key, 99) for key in range(40)))
        for row in (0, 17, 39):
            self.assertEqual(ignoring_moves(table, row), ALL // 40)
            self.assertEqual(ignoring_exactly(table, (row,)), ALL // 40)
        self.assertEqual(ignoring_exactly(table, (0, 1)), 0)

    def test_forty_rows_in_rings_and_still(self):
        rows = from_parts([(50,)], [range(20), range(20, 30)], range(30, 38)) + ((60, 3),)
        self.assertEqual(len(rows), 40)
        table = Table(*rows)
        for row in keys_of(rows):
            self.assertEqual(ignoring_moves(table, row), ALL if row == 50 else 0)
        self.assertEqual(ignoring_exactly(table, (50,)), ALL)
        self.assertEqual(ignoring_exactly(table, ()), 0)

    def test_small_tables_among_forty_rows(self):
        for rows in [*SMALL[200:1400:97], *TREES]:
            told = results(rows)
            for others in OTHERS:
                table = Table(*with_others(rows, others))
                for row in keys_of(rows):
                    self.assertEqual(ignoring_moves(table, row), share(told.ignoring[row], len(rows)))
        for rows in TREES:
            told, table = results(rows), Table(*with_others(rows, OTHERS[0]))
            for moved in told.ignored:
                self.assertEqual(ignoring_exactly(table, moved), share(told.ignored[moved], len(rows)))
            # Of the other 34 rows the first one moves, or another one.
            table = Table(*with_others(rows, OTHERS[2]))
            for moved in told.ignored:
                found = ignoring_exactly(table, moved + (1000,))
                self.assertEqual(found, share(told.ignored[moved], len(rows)) // (40 - len(rows)))

    def test_the_numbers_of_all_possible_sets_add_up_to_that_of_all_orders(self):
        chains = from_parts([range(start, start + 10) for start in (1, 21, 41)], (), range(80, 90))
        trees = tuple((key, key // 2 - 1) for key in range(40))
        gone_through = 0
        for rows in (chains, trees, *large_tables(30, 80)):
            table = Table(*rows)
            if count_possible(table) > 1000:
                continue
            gone_through += 1
            found = {moved: ignoring_exactly(table, moved) for moved in each_possible(table)}
            self.assertEqual(sum(found.values()), ALL)
            self.assertGreater(min(found.values()), 0)
            for row in keys_of(rows):
                inside = [many for moved, many in found.items() if row in moved]
                self.assertEqual(ignoring_moves(table, row), sum(inside))
                fate = "always" if sum(inside) == ALL else "sometimes" if inside else "never"
                self.assertEqual(move_fate(table, row), fate)
        self.assertGreater(gone_through, 8)

    def test_by_name_and_no_rows(self):
        table = Table((1, 2), (2, 3))
        self.assertEqual(ignoring_moves(table=table, key=1), 1)
        self.assertEqual(ignoring_moves(key=2, table=table), 2)
        self.assertEqual(ignoring_exactly(rows=(2,), table=table), 1)
        self.assertEqual(ignoring_exactly(table=table, rows=(1,)), 0)
        self.assertEqual(ignoring_exactly(Table(), ()), 1)


class Replacing(unittest.TestCase):
    """Promise 80: replacing_moves, replacing_leaves."""

    def test_small_tables_against_all_orders(self):
        for rows in SMALL:
            table, told, found = Table(*rows), results(rows), all_rings(rows)
            for row in keys_of(rows):
                if found:
                    for function in (replacing_moves, replacing_leaves):
                        with self.assertRaises(Ringed) as caught:
                            function(table, row)
                        self.assertEqual(caught.exception.ring, found[0])
                    continue
                self.assertEqual(replacing_moves(table, row), told.moving[row], (rows, row))
                self.assertEqual(replacing_leaves(table, row), told.leaving[row], (rows, row))

    def test_tables_in_trees_against_all_orders(self):
        for rows in TREES:
            table, told = Table(*rows), results(rows)
            for row in keys_of(rows):
                self.assertEqual(replacing_moves(table, row), told.moving[row])
                self.assertEqual(replacing_leaves(table, row), told.leaving[row])

    def test_a_row_that_moves_may_be_removed_later(self):
        table = Table((1, 9), (2, 9))
        self.assertEqual([replacing_moves(table, 1), replacing_leaves(table, 1)], [2, 1])
        for order in permutations((1, 2)):
            self.assertEqual(moving_with_replace(table.rows, order), list(order))
            self.assertEqual(Replace()(table, order).left, order[1:])

    def test_still_rows(self):
        table = Table((1, 1), (2, 1), (3, 2), (4, 4))
        self.assertEqual([replacing_moves(table, row) for row in (1, 2, 3, 4)], [0, 12, 24, 0])
        self.assertEqual([replacing_leaves(table, row) for row in (1, 2, 3, 4)], [12, 12, 24, 24])

    def test_forty_rows_in_a_chain(self):
        table, part = Table(*line_of_rows(40)), Fraction(0)
        for many in range(1, 41):
            # Of so many rows, the last of which waits for none, the first ones wait for each other.
            part += Fraction((-1) ** (many + 1), factorial(many))
            self.assertEqual(replacing_moves(table, many), part * ALL)
            self.assertEqual(replacing_leaves(table, many), part * ALL)

    def test_forty_rows_that_compete(self):
        table = Table(*((key, 99) for key in range(40)))
        still = Table(*((key, 0) for key in range(40)))
        for row in (1, 17, 39):
            self.assertEqual([replacing_moves(table, row), replacing_leaves(table, row)], [ALL, ALL // 40])
            self.assertEqual([replacing_moves(still, row), replacing_leaves(still, row)], [ALL, ALL // 39])
        self.assertEqual([replacing_moves(still, 0), replacing_leaves(still, 0)], [0, 0])

    def test_forty_rows_in_trees(self):
        # Row 0 wants a free key, 39 other rows want its key: it moves if it is visited first.
        table = Table((0, 99), *((key, 0) for key in range(1, 40)))
        self.assertEqual([replacing_moves(table, 0), replacing_leaves(table, 0)], [ALL // 40, ALL // 40])
        self.assertEqual([replacing_moves(table, 5), replacing_leaves(table, 5)], [ALL, ALL // 39])
        # Rows 0 and 1 want a free key, and 19 other rows that of each: one is left if it moves and the other one
        # does not behind it.
        table = Table((0, 99), (1, 99), *((key, key % 2) for key in range(2, 40)))
        both = Fraction(1, 20) * Fraction(1, 20) / 2
        self.assertEqual(replacing_moves(table, 0), ALL // 20)
        self.assertEqual(replacing_leaves(table, 0), ALL * (Fraction(1, 20) - both))
        # A still row is left if none of the rows that want its key ever moves.
        table = Table((0, 0), (1, 0), (2, 0), *((key, key % 2 + 1) for key in range(3, 39)), (50, 60))
        self.assertEqual(replacing_leaves(table, 0), ALL * Fraction(18, 19) ** 2)

    def test_small_tables_among_forty_rows(self):
        for rows in [*(rows for rows in SMALL[200:1400:37] if not all_rings(rows)), *TREES]:
            told = results(rows)
            for others in OTHERS:
                table = Table(*with_others(rows, others))
                for row in keys_of(rows):
                    self.assertEqual(replacing_moves(table, row), share(told.moving[row], len(rows)))
                    self.assertEqual(replacing_leaves(table, row), share(told.leaving[row], len(rows)))

    def test_fates_of_forty_rows(self):
        gone_through = 0
        for rows in large_tables(60, 81):
            table = Table(*rows)
            try:
                found = {row: replacing_leaves(table, row) for row in keys_of(rows)}
            except Ringed:
                continue
            gone_through += 1
            for row, many in found.items():
                fate = "always" if many == ALL else "sometimes" if many else "never"
                self.assertEqual(left_fate(table, row), fate)
                self.assertLessEqual(many, ALL)
        self.assertGreater(gone_through, 5)

    def test_by_name(self):
        table = Table((1, 2), (2, 3))
        self.assertEqual(replacing_moves(table=table, key=1), 2)
        self.assertEqual(replacing_moves(key=2, table=table), 1)
        self.assertEqual(replacing_leaves(table=table, key=2), 1)
        self.assertEqual(replacing_leaves(key=1, table=table), 2)


class WrongArguments(unittest.TestCase):
    """Promise 3: NotTable, NotRows, Missing, Ringed."""

    def test_no_table(self):
        for thing in NO_TABLES:
            for function in (ignoring_moves, ignoring_exactly, replacing_moves, replacing_leaves):
                for other in (1, (), None):
                    with self.subTest(thing=thing), self.assertRaises(NotTable):
                        function(thing, other)

    def test_missing_comes_before_ringed(self):
        for table in (Table((1, 2), (2, 9)), Table((1, 2), (2, 1))):
            for thing in NO_ROWS:
                for function in (ignoring_moves, replacing_moves, replacing_leaves):
                    with self.subTest(thing=thing), self.assertRaises(Missing):
                        function(table, thing)

    def test_no_set_of_rows(self):
        for table in (Table((1, 2), (2, 9)), Table((1, 2), (2, 1))):
            for rows in NO_SETS_OF_ROWS:
                with self.subTest(rows=rows), self.assertRaises(NotRows):
                    ignoring_exactly(table, rows)

    def test_the_first_ring(self):
        table = Table((9, 8), (8, 9), (5, 7), (7, 6), (6, 5), (1, 2), (2, 3))
        for row in (1, 9, 5):
            for function in (replacing_moves, replacing_leaves):
                with self.assertRaises(Ringed) as caught:
                    function(table, row)
                self.assertEqual(caught.exception.ring, (5, 7, 6))

    def test_the_table_stays_as_it_is(self):
        table = Table(*TREES[0])
        for function in (ignoring_moves, replacing_moves, replacing_leaves):
            self.assertEqual(function(table, 2), function(table, 2))
        self.assertEqual(ignoring_exactly(table, (1,)), ignoring_exactly(table, (1,)))
        self.assertEqual(table.rows, TREES[0])


if __name__ == "__main__":
    unittest.main()

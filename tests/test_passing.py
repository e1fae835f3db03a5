import inspect
import unittest

from itertools import permutations, product
from math import factorial, prod

from model import all_rings, all_small_tables, competing_pairs, execute, from_parts, keys_of, passing, small_tables
from rowclash.errors import Competing, NotTable, Ringed, TooMany
from rowclash.passing import each_passing, fits_at_end, passing_orders, shows_verdict, stages, verdict
from rowclash.tables import Table
from samples import ANYTHING, MOST, NO_KEYS, NO_TABLES, line_of_rows

# Tables of five rows: some hundreds of them, so that all their orders are gone through.
FIVE = 17


class Verdicts(unittest.TestCase):
    """Promise 40: verdict."""

    def test_the_session_of_the_document(self):
        self.assertEqual(verdict(Table((1, 2), (2, 3), (3, 4))), ("order", (3, 2, 1)))
        self.assertEqual(verdict(table=Table((1, 2), (2, 1))), ("ring", (1, 2)))

    def test_tables_with_up_to_five_rows_against_all_their_orders(self):
        for rows in [*all_small_tables(4), *small_tables(5, FIVE)]:
            orders, pairs, found = passing(rows), competing_pairs(rows), all_rings(rows)
            self.assertEqual(bool(orders), not pairs and not found)
            if pairs:
                expected = ("compete", pairs[0])
            elif found:
                expected = ("ring", found[0])
            else:
                expected = ("order", orders[0])
            self.assertEqual(verdict(Table(*rows)), expected)

    def test_the_first_of_several_pairs(self):
        self.assertEqual(verdict(Table((4, 9), (3, 9), (2, 9))), ("compete", (2, 3)))
        self.assertEqual(verdict(Table((1, 9), (2, 7), (3, 7), (4, 9))), ("compete", (1, 4)))
        self.assertEqual(verdict(Table((1, 2), (2, 2))), ("compete", (1, 2)))

    def test_the_first_of_several_rings(self):
        table = Table((5, 7), (7, 5), (2, 9), (9, 6), (6, 2), (3, 8), (8, 3))
        self.assertEqual(verdict(table), ("ring", (2, 9, 6)))

    def test_a_pair_comes_before_a_ring(self):
        self.assertEqual(verdict(Table((1, 2), (2, 1), (3, 9), (4, 9))), ("compete", (3, 4)))

    def test_the_first_order(self):
        self.assertEqual(verdict(Table()), ("order", ()))
        self.assertEqual(verdict(Table((1, 1), (2, 2))), ("order", (1, 2)))
        self.assertEqual(verdict(Table((1, 5), (2, 1), (5, 9), (3, 3))), ("order", (3, 5, 1, 2)))
        self.assertEqual(verdict(Table((MOST, -MOST), (-MOST, 0))), ("order", (-MOST, MOST)))

    def test_tables_of_forty_rows(self):
        self.assertEqual(verdict(Table(*line_of_rows(40))), ("order", tuple(range(40, 0, -1))))
        self.assertEqual(verdict(Table(*line_of_rows(39), (40, 1))), ("ring", tuple(range(1, 41))))
        rows = from_parts([range(10, 20), range(29, 19, -1)], [], [*range(10), *range(30, 40)])
        # Row 20 can be the first of its chain, rows 10 to 19 are visited from the last one back.
        expected = (*range(10), *range(19, 9, -1), *range(20, 40))
        self.assertEqual(verdict(Table(*rows)), ("order", expected))


class Showing(unittest.TestCase):
    """Promise 40: shows_verdict."""

    def test_all_pairs_of_a_word_and_rows(self):
        tables = [*all_small_tables(3), ((1, 2), (2, 1), (3, 4), (4, 3)), ((1, 9), (2, 9), (3, 4), (4, 3))]
        for rows in tables:
            table, many = Table(*rows), len(rows) + 1
            pairs, found, orders = competing_pairs(rows), all_rings(rows), passing(rows)
            for length in range(many + 1):
                for told in product(range(1, many + 1), repeat=length):
                    self.assertIs(shows_verdict(table, ("compete", told)), told in pairs)
                    self.assertIs(shows_verdict(table, ("ring", told)), told in found)
                    self.assertIs(shows_verdict(table, ("order", told)), told in orders)

    def test_a_verdict_shows_itself(self):
        for rows in small_tables(4):
            self.assertIs(shows_verdict(Table(*rows), verdict(Table(*rows))), True)
        rows = from_parts([range(10, 20), range(29, 19, -1)], [], [*range(10), *range(30, 40)])
        table = Table(*rows)
        self.assertIs(shows_verdict(table, verdict(table)), True)
        self.assertIs(shows_verdict(table, ("order", (*range(20, 40), *range(19, -1, -1)))), True)
        self.assertIs(shows_verdict(table, ("order", tuple(range(40)))), False)

    def test_any_ring_also_if_two_rows_compete(self):
        table = Table((1, 2), (2, 1), (3, 4), (4, 3), (5, 9), (6, 9), (7, 9), (8, 3))
        for thing in (("ring", (1, 2)), ("ring", (3, 4))):
            self.assertIs(shows_verdict(table, thing), True)
        for pair in ((5, 6), (5, 7), (6, 7), (4, 8)):
            self.assertIs(shows_verdict(table, ("compete", pair)), True)
            self.assertIs(shows_verdict(table, ("compete", pair[::-1])), False)

    def test_turned_rings(self):
        table = Table((1, 2), (2, 3), (3, 1))
        self.assertIs(shows_verdict(table=table, thing=("ring", (1, 2, 3))), True)
        for ring in ((2, 3, 1), (3, 1, 2), (1, 3, 2), (1, 2), (1, 2, 3, 1), (), (1,), (1, 2, 3, 1, 2, 3)):
            self.assertIs(shows_verdict(table, ("ring", ring)), False)

    def test_lists_instead_of_tuples_and_parts_left_out_or_twice(self):
        ring, chain, pair = Table((1, 2), (2, 1)), Table((1, 2), (2, 3)), Table((1, 9), (2, 9))
        for table, word, rows in ((ring, "ring", (1, 2)), (chain, "order", (2, 1)), (pair, "compete", (1, 2))):
            self.assertIs(shows_verdict(table, (word, rows)), True)
            for thing in (
                [word, rows], (word, list(rows)), (word,), (rows,), (rows, word), (word, rows, rows),
                (word, word, rows), (word, rows, ()), (word, *rows), (word, rows[:1]), (word, rows + rows[-1:]),
                (word, rows[0]), (word, rows[:1] * 2), (word, ()), (word, (rows,)), (word, tuple([r] for r in rows)),
                ((word, rows),), ([word], rows), (word.upper(), rows), (word.encode(), rows), (word + " ", rows),
                (None, rows), (word, None), {word: rows}, word, rows, (), (word, str(rows)), (word, dict([rows])),
                (word, {1: 1, 2: 2}), (word, table), (word, rows + (3,)),
            ):
                with self.subTest(thing=thing):
                    self.assertIs(shows_verdict(table, thing), False)

    def test_a_bool_is_no_key(self):
        for table, word, rows in (
            (Table((0, 1), (1, 0)), "ring", (0, 1)), (Table((0, 9), (1, 9)), "compete", (0, 1)),
            (Table((0, 8), (1, 9)), "order", (0, 1)),
        ):
            self.assertIs(shows_verdict(table, (word, rows)), True)
            for told in ((False, 1), (0, True), (False, True)):
                self.assertIs(shows_verdict(table, (word, told)), False)

    def test_no_rows(self):
        self.assertIs(shows_verdict(Table(), ("order", ())), True)
        for thing in (("ring", ()), ("compete", ()), ("order", []), ("order",), ("", ()), ((), ())):
            self.assertIs(shows_verdict(Table(), thing), False)

    def test_any_value(self):
        # None of the values has a key of one of these tables.
        for rows in ((), ((100, 1),), ((100, 101), (101, 100)), ((100, 9), (101, 9)), ((100, 101), (101, 9))):
            table = Table(*rows)
            for thing in ANYTHING:
                with self.subTest(thing=thing):
                    self.assertIs(shows_verdict(table, thing), False)
                    for word in ("ring", "compete", "order"):
                        empty = word == "order" and rows == () and isinstance(thing, tuple) and thing == ()
                        self.assertIs(shows_verdict(table, (word, thing)), empty)
                        self.assertIs(shows_verdict(table, (thing, word)), False)
                        for told in ((100, thing), (thing, 101), (100, 101, thing)):
                            self.assertIs(shows_verdict(table, (word, told)), False)
                    passes = thing == "order" and rows == ((100, 101), (101, 9))
                    self.assertIs(shows_verdict(table, (thing, (101, 100))), passes)


class Orders(unittest.TestCase):
    """Promise 41."""

    def test_numbers_and_orders_of_small_tables(self):
        for rows in [*all_small_tables(4), *small_tables(5, FIVE)]:
            table, orders = Table(*rows), passing(rows)
            self.assertEqual(passing_orders(table), len(orders))
            self.assertEqual(list(each_passing(table)), orders)
            self.assertIs(fits_at_end(table), not competing_pairs(rows))

    def test_the_session_of_the_document(self):
        self.assertEqual(passing_orders(Table((1, 2), (2, 3), (3, 4))), 1)

    def test_by_name(self):
        table = Table((1, 2), (2, 3), (9, 9))
        self.assertEqual(passing_orders(table=table), 3)
        self.assertEqual(list(each_passing(table=table)), [(2, 1, 9), (2, 9, 1), (9, 2, 1)])
        self.assertIs(fits_at_end(table=table), True)

    def test_no_rows(self):
        self.assertEqual(passing_orders(Table()), 1)
        self.assertEqual(list(each_passing(Table())), [()])
        self.assertIs(fits_at_end(Table()), True)

    def test_forty_rows_in_chains(self):
        for lengths in ((40,), (20, 20), (10, 10, 10, 10), (1,) * 40, (30, 5, 3, 1, 1), (2,) * 20):
            starts = [sum(lengths[:at]) for at in range(len(lengths))]
            chains = [range(start, start + length) for start, length in zip(starts, lengths)]
            table = Table(*from_parts(chains))
            self.assertEqual(len(table), 40)
            expected = factorial(40) // prod(factorial(length) for length in lengths)
            self.assertEqual(passing_orders(table), expected)
            self.assertIs(fits_at_end(table), True)

    def test_forty_rows_that_never_pass(self):
        for table in (Table(*line_of_rows(39), (40, 1)), Table(*line_of_rows(38), (39, 77), (40, 77))):
            self.assertEqual(passing_orders(table), 0)
            self.assertEqual(list(each_passing(table)), [])
        self.assertIs(fits_at_end(Table(*line_of_rows(39), (40, 1))), True)
        self.assertIs(fits_at_end(Table(*line_of_rows(38), (39, 77), (40, 77))), False)
        self.assertIs(fits_at_end(Table((1, 2), (2, 2))), False)

    def test_still_rows_are_visited_anywhere(self):
        self.assertEqual(passing_orders(Table(*from_parts([range(3)], [], range(10, 13)))), 120)
        self.assertEqual(passing_orders(Table(*((key, key) for key in range(40)))), factorial(40))

    def test_about_a_thousand_orders(self):
        # No table has just 1,000 such orders: 992 and 1,001 are the numbers next to it.
        chain = from_parts([range(30)], [], (50, 60))
        orders = list(each_passing(Table(*chain)))
        self.assertEqual((len(orders), len(set(orders))), (992, 992))
        self.assertEqual(orders, sorted(orders))
        for order in orders:
            self.assertEqual(execute(chain, order, "abort")[0], ())
        for rows, many in (
            (from_parts([range(10), range(20, 24)]), 1001), (line_of_rows(2) + line_of_rows(10, 40), 66),
            (from_parts((), (), range(7)), 5040), (from_parts((), (), range(40)), factorial(40)),
        ):
            table = Table(*rows)
            self.assertEqual(passing_orders(table), many)
            if many <= 1000:
                self.assertEqual(len(list(each_passing(table))), many)
                continue
            with self.assertRaises(TooMany) as caught:
                next(each_passing(table))
            self.assertEqual((caught.exception.many, caught.exception.most), (many, 1000))

    def test_it_is_a_generator(self):
        found = each_passing(Table((1, 2)))
        self.assertTrue(inspect.isgenerator(found))
        self.assertEqual(next(found), (1,))
        with self.assertRaises(StopIteration):
            next(found)


class Stages(unittest.TestCase):
    """Promise 42."""

    def test_stages(self):
        self.assertEqual(stages(Table((1, 2), (2, 3), (3, 4))), ((3,), (2,), (1,)))
        self.assertEqual(stages(table=Table((1, 3), (3, 9), (2, 2), (4, 1), (5, 8))), ((2, 3, 5), (1,), (4,)))
        self.assertEqual(stages(Table((1, 1), (2, 2))), ((1, 2),))
        self.assertEqual(stages(Table()), ())

    def test_they_pass_in_any_order_and_no_fewer_do(self):
        for rows in [*all_small_tables(4), *small_tables(5, FIVE)]:
            if not passing(rows):
                continue
            found = stages(Table(*rows))
            self.assertEqual(sorted(row for stage in found for row in stage), list(keys_of(rows)))
            parts = [permutations(stage) for stage in found]
            for order in product(*parts):
                flat = tuple(row for part in order for row in part)
                self.assertEqual(execute(rows, flat, "abort")[0], ())
            wanted = dict(rows)
            place = {row: at for at, stage in enumerate(found) for row in stage}
            for row in place:
                waits = wanted[row] in place and wanted[row] != row
                self.assertEqual(place[row], place[wanted[row]] + 1 if waits else 0)

    def test_forty_rows(self):
        self.assertEqual(stages(Table(*line_of_rows(40))), tuple((key,) for key in range(40, 0, -1)))
        rows = from_parts([range(15), range(20, 40)], (), range(15, 20))
        expected = [(14, 15, 16, 17, 18, 19, 39)]
        expected += [(14 - at, 39 - at) if at < 15 else (39 - at,) for at in range(1, 20)]
        self.assertEqual(stages(Table(*rows)), tuple(expected))

    def test_competing_comes_before_ringed(self):
        with self.assertRaises(Competing) as caught:
            stages(Table((1, 2), (2, 1), (5, 9), (3, 8), (6, 9), (4, 8)))
        self.assertEqual(caught.exception.pair, (3, 4))
        with self.assertRaises(Competing) as caught:
            stages(Table((1, 2), (2, 2)))
        self.assertEqual(caught.exception.pair, (1, 2))
        with self.assertRaises(Ringed) as caught:
            stages(Table((3, 4), (4, 3), (7, 2), (2, 8), (8, 7)))
        self.assertEqual(caught.exception.ring, (2, 8, 7))


class WrongArguments(unittest.TestCase):
    def test_no_table(self):
        for thing in NO_TABLES:
            for function in (verdict, passing_orders, fits_at_end, stages):
                with self.subTest(thing=thing), self.assertRaises(NotTable):
                    function(thing)
            with self.subTest(thing=thing), self.assertRaises(NotTable):
                shows_verdict(thing, ("order", ()))
            with self.subTest(thing=thing), self.assertRaises(NotTable):
                next(each_passing(thing))

    def test_the_table_stays_as_it_is_and_equal_arguments_give_equal_results(self):
        table = Table((1, 2), (2, 3), (4, 4))
        for function in (verdict, passing_orders, fits_at_end, stages, lambda table: list(each_passing(table))):
            self.assertEqual(function(table), function(table))
        self.assertEqual(table, Table((1, 2), (2, 3), (4, 4)))
        for thing in NO_KEYS:
            self.assertIs(shows_verdict(table, thing), False)


if __name__ == "__main__":
    unittest.main()

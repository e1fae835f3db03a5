import unittest

from itertools import permutations

from rowclash.errors import (
    Missing, NotInteger, NotKey, NotKeys, NotRow, NotRows, TooLarge, TooMany, Twice,
)
from rowclash.outcomes import Outcome
from rowclash.tables import Table
from samples import MOST, NO_INTEGERS, NO_KEYS, NO_PAIRS, line_of_rows


class Tables(unittest.TestCase):
    """Promises 10 and 11: making a table, and asking it."""

    def test_rows_are_ascending_in_whatever_order_they_are_passed(self):
        for pairs in permutations(((3, 1), (-1, 7), (2, 7))):
            table = Table(*pairs)
            self.assertEqual(table.rows, ((-1, 7), (2, 7), (3, 1)))
            self.assertEqual(repr(table), "Table(-1>7, 2>7, 3>1)")
            self.assertEqual(table, Table((-1, 7), (2, 7), (3, 1)))

    def test_no_rows(self):
        table = Table()
        self.assertEqual((table.rows, len(table), repr(table)), ((), 0, "Table()"))
        self.assertNotIn(0, table)

    def test_rows_and_repr_as_in_the_document(self):
        table = Table((2, 3), (1, 2))
        self.assertEqual(table.rows, ((1, 2), (2, 3)))
        self.assertIsInstance(table.rows, tuple)
        self.assertEqual(repr(table), "Table(1>2, 2>3)")

    def test_new_keys_may_be_equal_or_the_key_itself(self):
        self.assertEqual(Table((1, 5), (2, 5), (5, 5)).rows, ((1, 5), (2, 5), (5, 5)))

    def test_largest_keys(self):
        table = Table((MOST, -MOST), (-MOST, MOST))
        self.assertEqual(table.rows, ((-MOST, MOST), (MOST, -MOST)))
        self.assertEqual(table[MOST], -MOST)

    def test_forty_rows_and_one_more(self):
        pairs = line_of_rows(41)
        self.assertEqual(Table(*pairs[:40]).rows, pairs[:40])
        self.assertEqual(len(Table(*pairs[:40])), 40)
        with self.assertRaises(TooMany) as caught:
            Table(*pairs)
        self.assertEqual((caught.exception.many, caught.exception.most), (41, 40))
        with self.assertRaises(TooMany) as caught:
            Table(*line_of_rows(57))
        self.assertEqual((caught.exception.many, caught.exception.most), (57, 40))

    def test_no_pairs(self):
        for thing in NO_PAIRS:
            for pairs in ((thing,), ((7, 8), thing), (thing, (7, 8))):
                with self.subTest(pairs=pairs), self.assertRaises(NotRow):
                    Table(*pairs)

    def test_two_rows_with_one_key(self):
        for pairs, key in (
            (((1, 2), (1, 2)), 1),
            (((1, 2), (1, 3)), 1),
            (((2, 1), (1, 1), (2, 3), (1, 3)), 2),
            (((2, 1), (1, 1), (1, 3), (2, 3)), 1),
            (((3, 0), (0, 0), (3, 0), (3, 0), (0, 0)), 3),
        ):
            with self.subTest(pairs=pairs), self.assertRaises(Twice) as caught:
                Table(*pairs)
            self.assertEqual(caught.exception.key, key)

    def test_which_exception_comes_first(self):
        with self.assertRaises(NotRow):
            Table((1, 2), (1, 2), (1, None))
        with self.assertRaises(NotRow):
            Table(*line_of_rows(41), [1, 2])
        with self.assertRaises(Twice) as caught:
            Table(*line_of_rows(41), (40, 1))
        self.assertEqual(caught.exception.key, 40)

    def test_item(self):
        table = Table((1, 2), (0, 2))
        self.assertEqual((table[0], table[1]), (2, 2))
        for thing in NO_KEYS + (2, -1):
            with self.subTest(thing=thing), self.assertRaises(Missing):
                table[thing]

    def test_giving_a_new_key(self):
        table = Table((3, 4), (1, 2), (2, 2))
        table[1] = 4
        self.assertEqual(table.rows, ((1, 4), (2, 2), (3, 4)))
        table[3] = -MOST
        self.assertEqual(table.rows, ((1, 4), (2, 2), (3, -MOST)))
        self.assertEqual(table, Table((1, 4), (2, 2), (3, -MOST)))

    def test_giving_a_wrong_new_key_changes_nothing(self):
        table = Table((1, 2), (0, 2))
        for thing in NO_KEYS:
            with self.subTest(thing=thing), self.assertRaises(NotKey):
                table[1] = thing
            with self.subTest(thing=thing), self.assertRaises(Missing):
                table[thing] = 1
            with self.subTest(thing=thing), self.assertRaises(Missing):
                table[thing] = None
        with self.assertRaises(Missing):
            table[2] = 1
        self.assertEqual(table.rows, ((0, 2), (1, 2)))

    def test_in(self):
        table = Table((0, 7), (1, 8), (-MOST, 9))
        for thing in (0, 1, -MOST):
            self.assertIs(thing in table, True)
        for thing in NO_KEYS + (2, 7, 8, MOST, (0, 7), [0, 7]):
            self.assertIs(thing in table, False, thing)

    def test_equality(self):
        table = Table((1, 2), (2, 3))
        self.assertTrue(table == Table((2, 3), (1, 2)))
        self.assertFalse(table != Table((2, 3), (1, 2)))
        self.assertTrue(Table() == Table())
        for other in (Table(), Table((1, 2)), Table((1, 2), (2, 4)), Table((1, 2), (2, 3), (3, 4))):
            self.assertFalse(table == other)
            self.assertTrue(table != other)
        for thing in NO_KEYS + (1, table.rows, list(table.rows), dict(table.rows), repr(table)):
            self.assertFalse(table == thing)
            self.assertFalse(thing == table)
            self.assertTrue(table != thing)
        self.assertFalse(Table() == Outcome((), (), ()))
        self.assertFalse(Table() == ())

    def test_a_table_is_not_changed_by_what_is_done_to_what_it_returned(self):
        pairs = [(1, 2), (2, 3)]
        table = Table(*pairs)
        pairs[0] = (1, 9)
        before = table.rows
        table[1] = 7
        self.assertEqual(before, ((1, 2), (2, 3)))
        self.assertEqual(table.rows, ((1, 7), (2, 3)))


class Sums(unittest.TestCase):
    """Promise 12: +, += and -."""

    def test_sum_of_tables(self):
        one, other = Table((3, 1), (1, 1)), Table((2, 9), (0, 1))
        total = one + other
        self.assertEqual(total.rows, ((0, 1), (1, 1), (2, 9), (3, 1)))
        self.assertEqual((one.rows, other.rows), (((1, 1), (3, 1)), ((0, 1), (2, 9))))
        total[0] = 5
        total[1] = 5
        self.assertEqual((one[1], other[0]), (1, 1))
        one[1] = 6
        self.assertEqual(total[1], 5)

    def test_sum_with_a_tuple(self):
        one = Table((3, 1))
        self.assertEqual((one + ((5, 1), (2, 2))).rows, ((2, 2), (3, 1), (5, 1)))
        self.assertEqual(one.rows, ((3, 1),))

    def test_sum_with_nothing_is_another_table(self):
        one = Table((3, 1))
        for nothing in ((), Table()):
            same = one + nothing
            self.assertEqual(same, one)
            same[3] = 2
            self.assertEqual(one[3], 1)
        empty = Table()
        self.assertEqual(empty + empty, Table())
        self.assertEqual(empty + one, one)

    def test_sum_in_place(self):
        one, other = Table((3, 1)), Table((2, 2), (0, 3))
        same = one
        one += other
        self.assertIs(one, same)
        self.assertEqual(one.rows, ((0, 3), (2, 2), (3, 1)))
        one[2] = 8
        self.assertEqual(other.rows, ((0, 3), (2, 2)))
        other[0] = 9
        self.assertEqual(one[0], 3)
        one += ((7, 7), (5, 5))
        self.assertIs(one, same)
        self.assertEqual(repr(one), "Table(0>3, 2>8, 3>1, 5>5, 7>7)")
        one += ()
        self.assertEqual(len(same), 5)

    def test_a_table_added_to_itself(self):
        table = Table((4, 1), (2, 1))
        with self.assertRaises(Twice) as caught:
            table + table
        self.assertEqual(caught.exception.key, 2)
        with self.assertRaises(Twice) as caught:
            table += table
        self.assertEqual(caught.exception.key, 2)
        self.assertEqual(table.rows, ((2, 1), (4, 1)))
        empty = same = Table()
        empty += empty
        self.assertIs(empty, same)
        self.assertEqual(empty.rows, ())

    def test_wrong_operands(self):
        table = Table((3, 1))
        wrong = [thing for thing in NO_INTEGERS if not isinstance(thing, (Table, tuple))]
        wrong += [1, [(1, 2)], {1: 2}, (1, 2), ([1, 2],), "12", Outcome((), (), ())]
        wrong += [(pair,) for pair in NO_PAIRS] + [((1, 2), pair) for pair in NO_PAIRS]
        for other in wrong:
            with self.subTest(other=other), self.assertRaises(NotRow):
                table + other
            with self.subTest(other=other), self.assertRaises(NotRow):
                table += other
            self.assertEqual(table.rows, ((3, 1),))

    def assert_twice(self, one, other, key):
        rows = one.rows
        with self.assertRaises(Twice) as caught:
            one + other
        self.assertEqual(caught.exception.key, key)
        with self.assertRaises(Twice) as caught:
            one += other
        self.assertEqual(caught.exception.key, key)
        self.assertEqual(one.rows, rows)

    def test_two_rows_with_one_key(self):
        one = Table((1, 1), (2, 2), (3, 3))
        self.assert_twice(one, ((3, 1), (1, 1)), 3)
        self.assert_twice(one, ((1, 1), (3, 1)), 1)
        self.assert_twice(one, ((7, 1), (7, 1), (1, 1)), 7)
        self.assert_twice(one, Table((3, 3), (2, 5)), 2)

    def test_too_many_rows(self):
        one, other = Table(*line_of_rows(25)), Table(*line_of_rows(15, 100))
        self.assertEqual(len(one + other), 40)
        for more in (Table(*line_of_rows(16, 100)), line_of_rows(16, 100)):
            with self.assertRaises(TooMany) as caught:
                one + more
            self.assertEqual((caught.exception.many, caught.exception.most), (41, 40))
            with self.assertRaises(TooMany) as caught:
                one += more
            self.assertEqual((caught.exception.many, caught.exception.most), (41, 40))
        self.assertEqual(one.rows, line_of_rows(25))
        with self.assertRaises(TooMany) as caught:
            one + line_of_rows(60, 100)
        self.assertEqual(caught.exception.many, 85)

    def test_which_exception_comes_first(self):
        one = Table(*line_of_rows(25))
        with self.assertRaises(NotRow):
            one + ((1, 1), *line_of_rows(30, 100), (1, True))
        self.assert_twice(one, (*line_of_rows(30, 100), (1, 1)), 1)

    def test_difference(self):
        table = Table((1, 2), (2, 3), (3, 3))
        rest = table - (1, 3)
        self.assertEqual(rest.rows, ((2, 3),))
        self.assertEqual((table - (1, 2, 3)).rows, ())
        self.assertEqual((Table() - ()).rows, ())
        rest[2] = 9
        self.assertEqual(table.rows, ((1, 2), (2, 3), (3, 3)))

    def test_difference_without_any_rows_is_another_table(self):
        table = Table((1, 2), (2, 3))
        same = table - ()
        self.assertEqual(same, table)
        same[1] = 9
        self.assertEqual(table[1], 2)
        table[2] = 8
        self.assertEqual(same[2], 3)

    def test_difference_with_no_set_of_rows(self):
        table = Table((0, 2), (1, 3), (2, 3))
        wrong = [thing for thing in NO_INTEGERS if thing != () and thing != (1,) and thing != (1, 2)]
        wrong += [1, [1], {1: 3}, (2, 1), (1, 1), (3,), (0, 1, 2, 3), ((0, 2),), table]
        wrong += [(0, thing) for thing in NO_KEYS] + [(thing,) for thing in NO_KEYS]
        for rows in wrong:
            with self.subTest(rows=rows), self.assertRaises(NotRows):
                table - rows
        self.assertEqual(table.rows, ((0, 2), (1, 3), (2, 3)))


class Shifted(unittest.TestCase):
    """Promise 12: Table.shifted."""

    def test_shifted(self):
        self.assertEqual(Table.shifted((3, 1, 2), 1), Table((1, 2), (2, 3), (3, 4)))
        self.assertEqual(Table.shifted((5, -5), -10).rows, ((-5, -15), (5, -5)))
        self.assertEqual(Table.shifted((5,), 0).rows, ((5, 5),))
        self.assertEqual(Table.shifted((), 10 ** 15 - 1).rows, ())
        self.assertEqual(Table.shifted(keys=(1,), by=2).rows, ((1, 3),))
        self.assertEqual(Table.shifted((1,), 10 ** 15 - 1).rows, ((1, 10 ** 15),))
        self.assertEqual(Table.shifted((1,), 1 - 10 ** 15).rows, ((1, 2 - 10 ** 15),))

    def test_no_keys(self):
        wrong = [thing for thing in NO_INTEGERS if thing != () and thing != (1,) and thing != (1, 2)]
        wrong += [1, [1, 2], (1, 1), (2, 1, 2), "12", {1: 2}]
        wrong += [(1, thing) for thing in NO_KEYS] + [(thing, 1) for thing in NO_KEYS]
        for keys in wrong:
            with self.subTest(keys=keys), self.assertRaises(NotKeys):
                Table.shifted(keys, 1)

    def test_no_small_integer(self):
        for by in NO_KEYS + (10 ** 15, -10 ** 15, MOST):
            with self.subTest(by=by), self.assertRaises(NotInteger):
                Table.shifted((1, 2), by)

    def test_too_many_keys(self):
        self.assertEqual(Table.shifted(tuple(range(1, 41)), 1).rows, line_of_rows(40))
        with self.assertRaises(TooMany) as caught:
            Table.shifted(tuple(range(41)), 1)
        self.assertEqual((caught.exception.many, caught.exception.most), (41, 40))

    def test_new_keys_with_too_many_digits(self):
        self.assertEqual(Table.shifted((MOST - 1, 1), 1).rows, ((1, 2), (MOST - 1, MOST)))
        self.assertEqual(Table.shifted((1 - MOST,), -1).rows, ((1 - MOST, -MOST),))
        for keys, by in (((MOST,), 1), ((1, MOST, 2), 1), ((-MOST,), -1), ((7 - MOST,), -10)):
            with self.subTest(keys=keys, by=by), self.assertRaises(TooLarge):
                Table.shifted(keys, by)

    def test_which_exception_comes_first(self):
        with self.assertRaises(NotKeys):
            Table.shifted([1], True)
        with self.assertRaises(NotKeys):
            Table.shifted(tuple(range(41)) + (0,), 10 ** 15)
        with self.assertRaises(NotInteger):
            Table.shifted(tuple(range(41)), 10 ** 15)
        with self.assertRaises(TooMany):
            Table.shifted(tuple(range(40)) + (MOST,), 1)


if __name__ == "__main__":
    unittest.main()

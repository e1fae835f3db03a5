import unittest

from itertools import product

from rowclash.errors import Missing
from rowclash.outcomes import Outcome
from rowclash.tables import Table
from samples import MOST, NO_KEYS, line_of_rows

CHAIN = ((1, 2), (2, 3), (3, 4))

# The table CHAIN in the order 1, 3, 2: at once row 1 finds its new key held by row 2.
ABORTED = Outcome(CHAIN, (1, 2), ((1, 1), (2, 2), (3, 3)))
IGNORED = Outcome(CHAIN, (), ((1, 1), (2, 3), (3, 4)))
REPLACED = Outcome(CHAIN, (), ((1, 2), (3, 4)))
# With Fail in the order 3, 1, 2: row 3 has moved before.
FAILED = Outcome(CHAIN, (1, 2), ((1, 1), (2, 2), (3, 4)))
PASSED = Outcome(CHAIN, (), ((1, 2), (2, 3), (3, 4)))
EMPTY = Outcome((), (), ())
ALL = (ABORTED, IGNORED, REPLACED, FAILED, PASSED, EMPTY)


class Outcomes(unittest.TestCase):
    """Promise 23."""

    def test_rows_stop_and_ends(self):
        self.assertEqual((FAILED.rows, FAILED.stop), (CHAIN, (1, 2)))
        self.assertEqual(FAILED.ends, ((1, 1), (2, 2), (3, 4)))
        self.assertEqual((REPLACED.rows, REPLACED.stop, REPLACED.ends), (CHAIN, (), ((1, 2), (3, 4))))
        self.assertEqual((EMPTY.rows, EMPTY.stop, EMPTY.ends), ((), (), ()))

    def test_made_by_name(self):
        self.assertEqual(Outcome(rows=CHAIN, stop=(), ends=((1, 2), (3, 4))), REPLACED)

    def test_moved_left_held(self):
        for outcome, moved, left, held in (
            (ABORTED, (), (1, 2, 3), (1, 2, 3)),
            (IGNORED, (2, 3), (1, 2, 3), (1, 3, 4)),
            (REPLACED, (1, 3), (1, 3), (2, 4)),
            (FAILED, (3,), (1, 2, 3), (1, 2, 4)),
            (PASSED, (1, 2, 3), (1, 2, 3), (2, 3, 4)),
            (EMPTY, (), (), ()),
        ):
            with self.subTest(outcome=outcome):
                self.assertEqual((outcome.moved, outcome.left, outcome.held), (moved, left, held))
                self.assertEqual(len(outcome), len(left))

    def test_a_still_row_holds_its_new_key_but_has_not_moved(self):
        outcome = Outcome(((1, 1), (2, 5)), (), ((1, 1), (2, 5)))
        self.assertEqual((outcome.moved, outcome.left, outcome.held), ((2,), (1, 2), (1, 5)))

    def test_held_is_ascending_though_the_rows_hold_the_keys_crosswise(self):
        outcome = Outcome(((1, 9), (2, -3), (3, 2)), (), ((1, 9), (2, -3), (3, 2)))
        self.assertEqual(outcome.held, (-3, 2, 9))
        self.assertEqual(outcome.moved, (1, 2, 3))

    def test_a_removed_row_has_not_moved(self):
        # With Replace in the order 2, 1, 3: row 2 moves to 5, and is removed by row 1.
        outcome = Outcome(((1, 5), (2, 5), (3, 1)), (), ((1, 5), (3, 1)))
        self.assertEqual((outcome.moved, outcome.left, outcome.held), ((1, 3), (1, 3), (1, 5)))
        self.assertIsNone(outcome[2])

    def test_item(self):
        self.assertEqual([REPLACED[key] for key in (1, 2, 3)], [2, None, 4])
        self.assertEqual([FAILED[key] for key in (1, 2, 3)], [1, 2, 4])
        self.assertEqual(Outcome(((-MOST, MOST),), (), ((-MOST, MOST),))[-MOST], MOST)
        self.assertEqual(Outcome(((0, 7), (1, 0)), (), ((0, 0), (1, 1)))[0], 0)

    def test_item_that_is_no_row(self):
        for outcome in (REPLACED, Outcome(((0, 7), (1, 0)), (), ((0, 7), (1, 0)))):
            for thing in NO_KEYS + (4, 7, -1, (1, 2)):
                with self.subTest(thing=thing), self.assertRaises(Missing):
                    outcome[thing]
        with self.assertRaises(Missing):
            EMPTY[0]

    def test_outcomes_compare_as_their_triples_do(self):
        for one, other in product(ALL, ALL):
            a, b = (one.rows, one.stop, one.ends), (other.rows, other.stop, other.ends)
            with self.subTest(a=a, b=b):
                self.assertIs(one == other, a == b)
                self.assertIs(one != other, a != b)
                self.assertIs(one < other, a < b)
                self.assertIs(one <= other, a <= b)
                self.assertIs(one > other, a > b)
                self.assertIs(one >= other, a >= b)

    def test_each_part_of_the_triple_counts_and_in_this_order(self):
        ascending = (
            Outcome(((1, 2), (2, 2)), (1, 2), ((1, 1), (2, 2))),
            Outcome(((1, 2), (2, 4)), (), ((1, 2),)),
            Outcome(((1, 2), (2, 4)), (), ((2, 4),)),
            Outcome(((1, 2), (2, 4)), (1, 2), ((1, 1), (2, 2))),
            Outcome(((1, 2), (2, 4)), (1, 2), ((1, 1), (2, 4))),
        )
        for at, one in enumerate(ascending):
            for beside, other in enumerate(ascending):
                self.assertIs(one < other, at < beside)
                self.assertIs(one == other, at == beside)
                self.assertIs(one >= other, at >= beside)

    def test_equal_outcomes(self):
        same = Outcome(CHAIN, (), ((1, 2), (3, 4)))
        self.assertTrue(same == REPLACED)
        self.assertFalse(same != REPLACED)
        self.assertTrue(same <= REPLACED and same >= REPLACED)
        self.assertFalse(same < REPLACED or same > REPLACED)

    def test_an_outcome_equals_nothing_else(self):
        for outcome in (REPLACED, EMPTY):
            parts = (outcome.rows, outcome.stop, outcome.ends)
            for thing in (1, parts, list(parts), outcome.ends, dict(outcome.ends), repr(outcome), Table()):
                self.assertFalse(outcome == thing)
                self.assertFalse(thing == outcome)
                self.assertTrue(outcome != thing)
        for thing in NO_KEYS:
            self.assertFalse(REPLACED == thing)

    def test_order_is_between_outcomes_alone(self):
        for thing in (1, None, (), (CHAIN, (), ()), Table(*CHAIN), "x"):
            for compare in (
                lambda: REPLACED < thing, lambda: REPLACED <= thing,
                lambda: REPLACED > thing, lambda: REPLACED >= thing,
            ):
                with self.subTest(thing=thing), self.assertRaises(TypeError):
                    compare()

    def test_repr(self):
        self.assertEqual(repr(IGNORED), "Outcome(2 moved, 3 left)")
        self.assertEqual(repr(REPLACED), "Outcome(2 moved, 2 left)")
        self.assertEqual(repr(FAILED), "Outcome(1 moved, 3 left)")
        self.assertEqual(repr(ABORTED), "Outcome(0 moved, 3 left)")
        self.assertEqual(repr(EMPTY), "Outcome(0 moved, 0 left)")

    def test_forty_rows(self):
        rows = line_of_rows(40)
        outcome = Outcome(rows, (), rows)
        self.assertEqual(outcome.moved, tuple(range(1, 41)))
        self.assertEqual(outcome.held, tuple(range(2, 42)))
        self.assertEqual(repr(outcome), "Outcome(40 moved, 40 left)")

    def test_an_outcome_does_not_change_if_the_table_does(self):
        table = Table(*CHAIN)
        outcome = Outcome(table.rows, (), ((1, 2), (3, 4)))
        table[1] = 9
        table += ((7, 8),)
        self.assertEqual(outcome, REPLACED)
        self.assertEqual((outcome.rows, outcome.moved), (CHAIN, (1, 3)))
        with self.assertRaises(Missing):
            outcome[7]

    def test_what_an_outcome_returns_are_tuples(self):
        for outcome in ALL:
            for part in (outcome.rows, outcome.stop, outcome.ends, outcome.moved, outcome.left, outcome.held):
                self.assertIsInstance(part, tuple)


if __name__ == "__main__":
    unittest.main()

import unittest

from itertools import permutations
from random import Random

from model import WORDS, all_small_tables, execute, from_parts, keys_of, large_tables
from rowclash.errors import Missing, NotOrder, NotRule, NotTable
from rowclash.outcomes import Outcome
from rowclash.rules import Abort, Continues, Fail, Ignore, Leaves, Removes, Replace, Rule, Stops, Undoes
from rowclash.tables import Table
from samples import ANYTHING, MOST, NO_KEYS, NO_TABLES, line_of_rows

RULES = {"abort": Abort, "fail": Fail, "ignore": Ignore, "replace": Replace}
CHAIN = Table((1, 2), (2, 3), (3, 4))


class Executing(unittest.TestCase):
    """Promises 20, 21 and 23."""

    def assert_outcome(self, word, rows, order):
        outcome = RULES[word]()(Table(*rows), order)
        stop, ends = execute(rows, order, word)
        self.assertEqual((outcome.rows, outcome.stop, outcome.ends), (rows, stop, ends), (word, rows, order))

    def test_small_tables_in_all_orders(self):
        for rows in all_small_tables(3):
            for order in permutations(keys_of(rows)):
                for word in WORDS:
                    self.assert_outcome(word, rows, order)

    def test_tables_of_forty_rows(self):
        chance = Random(20)
        tables = list(large_tables(12, 21))
        tables += [line_of_rows(40), tuple(zip(range(40), [*range(1, 40), 0])), tuple((key, 7) for key in range(40))]
        tables += [from_parts([range(20)], [range(20, 29), range(29, 33)], range(33, 40))]
        for rows in tables:
            keys = keys_of(rows)
            orders = [keys, keys[::-1]] + [tuple(chance.sample(keys, 40)) for _ in range(15)]
            for order in orders:
                for word in WORDS:
                    self.assert_outcome(word, rows, order)

    def test_the_session_of_the_document(self):
        self.assertEqual(Ignore()(CHAIN, (1, 3, 2)).moved, (2, 3))
        self.assertEqual(Replace()(CHAIN, (1, 3, 2)).held, (2, 4))
        table = Table((1, 5), (2, 5), (3, 1))
        moved = [Ignore()(table, order).moved for order in permutations((1, 2, 3))]
        self.assertEqual(sorted(moved), [(1,), (1, 3), (1, 3), (2,), (2,), (2,)])
        self.assertEqual(Ignore()(table, (3, 1, 2)).moved, (1,))
        self.assertEqual({Replace()(table, order).held for order in permutations((1, 2, 3))}, {(1, 5)})

    def test_a_chain_in_a_bad_order(self):
        # Row 3 moves, then row 1 collides with row 2.
        for rule, stop, ends in (
            (Abort(), (1, 2), ((1, 1), (2, 2), (3, 3))),
            (Fail(), (1, 2), ((1, 1), (2, 2), (3, 4))),
            (Ignore(), (), ((1, 1), (2, 3), (3, 4))),
            (Replace(), (), ((1, 2), (3, 4))),
        ):
            self.assertEqual(rule(CHAIN, (3, 1, 2)), Outcome(CHAIN.rows, stop, ends))

    def test_a_chain_in_the_order_that_passes(self):
        for rule in RULES.values():
            outcome = rule()(CHAIN, (3, 2, 1))
            self.assertEqual((outcome.stop, outcome.ends), ((), ((1, 2), (2, 3), (3, 4))))

    def test_no_rows(self):
        for rule in RULES.values():
            outcome = rule()(Table(), ())
            self.assertEqual((outcome.rows, outcome.stop, outcome.ends), ((), (), ()))
            self.assertEqual((outcome.moved, outcome.left, outcome.held, len(outcome)), ((), (), (), 0))

    def test_still_rows(self):
        for rule in RULES.values():
            outcome = rule()(Table((1, 1), (2, 2)), (2, 1))
            self.assertEqual((outcome.stop, outcome.moved, outcome.left), ((), (), (1, 2)))

    def test_a_still_row_is_in_the_way(self):
        table = Table((1, 2), (2, 2))
        for order in ((1, 2), (2, 1)):
            self.assertEqual(Fail()(table, order).stop, (1, 2))
            self.assertEqual(Ignore()(table, order).ends, ((1, 1), (2, 2)))
            self.assertEqual(Replace()(table, order).ends, ((1, 2),))

    def test_competing_rows(self):
        table = Table((1, 9), (2, 9))
        self.assertEqual(Fail()(table, (2, 1)), Outcome(table.rows, (1, 2), ((1, 1), (2, 9))))
        self.assertEqual(Abort()(table, (2, 1)), Outcome(table.rows, (1, 2), ((1, 1), (2, 2))))
        self.assertEqual(Ignore()(table, (2, 1)).ends, ((1, 1), (2, 9)))
        # The holder has moved before it is removed.
        self.assertEqual(Replace()(table, (2, 1)).ends, ((1, 9),))

    def test_a_ring(self):
        table = Table((1, 2), (2, 3), (3, 1))
        self.assertEqual(Ignore()(table, (2, 1, 3)).ends, ((1, 1), (2, 2), (3, 3)))
        # Row 2 removes row 3, and row 1 finds its new key free. Row 3 is visited when it has been removed.
        self.assertEqual(Replace()(table, (2, 1, 3)).ends, ((1, 2), (2, 3)))
        self.assertEqual(Replace()(table, (2, 3, 1)).moved, (1, 2))

    def test_a_row_does_not_move_twice_and_an_old_key_is_free(self):
        table = Table((1, 2), (2, 5), (3, 2))
        self.assertEqual(Ignore()(table, (2, 3, 1)).ends, ((1, 1), (2, 5), (3, 2)))
        self.assertEqual(Ignore()(table, (3, 2, 1)).ends, ((1, 2), (2, 5), (3, 3)))

    def test_key_zero_is_a_holder_like_others(self):
        table = Table((0, 5), (1, 0))
        self.assertEqual(Abort()(table, (1, 0)).stop, (1, 0))
        self.assertEqual(Replace()(table, (1, 0)).ends, ((1, 0),))
        self.assertEqual(Fail()(Table((0, 1), (1, 5)), (0, 1)).stop, (0, 1))

    def test_largest_keys(self):
        table = Table((MOST, -MOST), (-MOST, 0))
        self.assertEqual(Ignore()(table, (-MOST, MOST)).ends, ((-MOST, 0), (MOST, -MOST)))
        self.assertEqual(Fail()(table, (MOST, -MOST)).stop, (MOST, -MOST))

    def test_the_table_stays_as_it_is_and_the_outcome_too(self):
        table = Table((1, 2), (2, 3), (3, 4))
        outcomes = [rule()(table, (1, 3, 2)) for rule in RULES.values()]
        self.assertEqual(table, CHAIN)
        table[1] = 9
        table += ((7, 8),)
        for outcome, rule in zip(outcomes, RULES.values()):
            self.assertEqual(outcome, rule()(CHAIN, (1, 3, 2)))
            self.assertEqual(outcome.rows, CHAIN.rows)
            with self.assertRaises(Missing):
                outcome[7]

    def test_items_and_order_of_outcomes(self):
        outcomes = [RULES[word]()(CHAIN, order) for word in WORDS for order in permutations((1, 2, 3))]
        for one in outcomes:
            self.assertIsInstance(one, Outcome)
            for row in (1, 2, 3):
                self.assertEqual(one[row], dict(one.ends).get(row))
            for other in outcomes:
                a, b = (one.rows, one.stop, one.ends), (other.rows, other.stop, other.ends)
                self.assertEqual(
                    (one == other, one < other, one <= other, one > other, one >= other),
                    (a == b, a < b, a <= b, a > b, a >= b),
                )

    def test_repr_of_outcomes(self):
        self.assertEqual(repr(Ignore()(CHAIN, (1, 3, 2))), "Outcome(2 moved, 3 left)")
        self.assertEqual(repr(Replace()(CHAIN, (1, 3, 2))), "Outcome(2 moved, 2 left)")

    def test_arguments_by_position_and_by_name(self):
        for rule in RULES.values():
            expected = rule()(CHAIN, (1, 3, 2))
            self.assertEqual(rule()(table=CHAIN, order=(1, 3, 2)), expected)
            self.assertEqual(rule()(CHAIN, order=(1, 3, 2)), expected)
            self.assertEqual(rule()(order=(1, 3, 2), table=CHAIN), expected)


class WrongArguments(unittest.TestCase):
    """Promises 3 and 22: NotTable, then NotOrder."""

    def test_no_table(self):
        for rule in RULES.values():
            for thing in NO_TABLES:
                with self.subTest(thing=thing), self.assertRaises(NotTable):
                    rule()(thing, ())
            with self.assertRaises(NotTable):
                rule()(None, None)

    def test_no_order(self):
        table = Table((0, 1), (1, 2), (2, 3))
        wrong = [thing for thing in ANYTHING] + [
            (0, 1), (1, 2), (0, 0, 1), (0, 1, 1), (0, 1, 2, 2), (0, 1, 3), (0, 1, 2, 3), [0, 1, 2], {0: 0, 1: 1, 2: 2},
            ((0, 1, 2),), ((0,), (1,), (2,)), ("0", "1", "2"), "012", b"012", table, table.rows,
            Ignore()(table, (0, 1, 2)),
        ] + [(0, thing, 2) for thing in NO_KEYS] + [(thing, 1, 2) for thing in NO_KEYS]
        for rule in RULES.values():
            for order in wrong:
                with self.subTest(order=order), self.assertRaises(NotOrder):
                    rule()(table, order)
            with self.assertRaises(NotOrder):
                rule()(Table(), (0,))
            with self.assertRaises(NotOrder):
                rule()(Table(), [])
        self.assertEqual(table.rows, ((0, 1), (1, 2), (2, 3)))


class TheRules(unittest.TestCase):
    """Promise 22."""

    def test_aspects(self):
        for rule, aspects in (
            (Abort, (Stops, Undoes)), (Fail, (Stops, Leaves)), (Ignore, (Continues, Leaves)),
            (Replace, (Continues, Removes)),
        ):
            self.assertEqual(rule.__bases__, aspects)
            for aspect in (Stops, Continues, Undoes, Leaves, Removes):
                self.assertIs(isinstance(rule(), aspect), aspect in aspects)
            self.assertIsInstance(rule(), Rule)
        for aspect in (Stops, Continues, Undoes, Leaves, Removes):
            self.assertTrue(issubclass(aspect, Rule))

    def test_words_and_repr(self):
        for word, rule in RULES.items():
            self.assertEqual((rule.WORD, rule().WORD), (word, word))
            self.assertEqual(repr(rule()), f"{rule.__name__}()")
        self.assertEqual(repr(Abort()), "Abort()")

    def test_named(self):
        for word, rule in RULES.items():
            for named in (Rule.named(word), Rule.named(word=word), Abort.named(word), Ignore().named(word)):
                self.assertIs(type(named), rule)
        self.assertEqual(Rule.named("replace")(CHAIN, (1, 3, 2)).held, (2, 4))

    def test_no_word(self):
        for thing in ANYTHING:
            if thing != "abort":
                with self.subTest(thing=thing), self.assertRaises(NotRule):
                    Rule.named(thing)
        for thing in (
            "", "Abort", "ABORT", "abort ", " fail", "ignore()", "undo", "rule", b"abort", ["abort"], ("fail",),
        ):
            with self.subTest(thing=thing), self.assertRaises(NotRule):
                Rule.named(thing)

    def test_equality(self):
        for one in RULES.values():
            for other in RULES.values():
                self.assertIs(one() == other(), one is other)
                self.assertIs(one() != other(), one is not other)
            for thing in ANYTHING + (one.WORD, repr(one()), one):
                if not isinstance(thing, Rule):
                    self.assertIs(one() == thing, False)
                    self.assertIs(thing == one(), False)
                    self.assertIs(one() != thing, True)

    def test_rules_are_made_without_arguments(self):
        for rule in RULES.values():
            with self.assertRaises(TypeError):
                rule("abort")


if __name__ == "__main__":
    unittest.main()

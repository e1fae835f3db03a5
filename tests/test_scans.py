import time
import unittest

from itertools import combinations, product
from random import Random

from model import execute, statement_of
from rowclash.errors import (
    NotBound, NotFormula, NotInteger, NotKey, NotKeys, NotRow, NotRows, NotScan, TooLarge, TooMany,
)
from rowclash.outcomes import Outcome
from rowclash.rules import Fail
from rowclash.scans import Formula, clash, safe_scans, statement
from rowclash.tables import Table
from samples import ANYTHING, MOST, NO_INTEGERS, NO_KEYS

SCANS = ("up", "down", "far", "near")
SMALL = 10 ** 15 - 1
NO_SMALL = NO_INTEGERS + (SMALL + 1, -SMALL - 1, MOST, -MOST)
NO_FORMULAS = NO_KEYS + (0, 1, SMALL, "k + 1", "Formula(1, 1)", (1, 1), [1, 1], {"times": 1})
NO_SCANS = NO_KEYS + (0, 1, "UP", "up ", " up", "u", "upp", b"up", ("up",), ["up"], {"up": 1}, SCANS)
NO_BOUNDS = tuple(thing for thing in NO_SMALL if thing is not None) + ("0", "*", [0], (0,), Formula())


class Formulas(unittest.TestCase):
    """Promise 100."""

    def test_numbers(self):
        for times, plus in ((1, 0), (0, 0), (-1, 5), (2, -3), (SMALL, -SMALL), (-SMALL, SMALL)):
            formula = Formula(times, plus)
            self.assertEqual((formula.times, formula.plus), (times, plus))
            self.assertEqual(Formula(plus=plus, times=times), formula)
        self.assertEqual(Formula(), Formula(1, 0))
        self.assertEqual(Formula(3), Formula(3, 0))
        self.assertEqual(Formula(plus=3), Formula(1, 3))

    def test_no_integer_comes_before_no_small_integer(self):
        for thing in NO_INTEGERS:
            for numbers in ((thing, 1), (1, thing), (thing, thing), (SMALL + 1, thing), (thing, SMALL + 1)):
                with self.subTest(numbers=numbers), self.assertRaises(NotInteger):
                    Formula(*numbers)
        for thing in (SMALL + 1, -SMALL - 1, MOST, -MOST, 10 ** 59):
            for numbers in ((thing, 1), (1, thing), (thing, thing)):
                with self.subTest(numbers=numbers), self.assertRaises(TooLarge):
                    Formula(*numbers)

    def test_they_are_not_changed(self):
        with self.assertRaises(AttributeError):
            Formula().times = 2
        with self.assertRaises(AttributeError):
            Formula().plus = 2

    def test_new_keys(self):
        for times, plus in ((1, 0), (0, 7), (-1, 5), (2, -3), (SMALL, -SMALL), (-SMALL, SMALL)):
            formula = Formula(times, plus)
            for key in (0, 1, -1, 12345, MOST, -MOST):
                self.assertEqual(formula(key), times * key + plus)
                self.assertEqual(formula(key=key), times * key + plus)
        self.assertEqual(Formula(SMALL, SMALL)(MOST), SMALL * MOST + SMALL)

    def test_no_key(self):
        for thing in NO_KEYS:
            with self.subTest(thing=thing), self.assertRaises(NotKey):
                Formula()(thing)

    def test_sums_and_differences(self):
        one, other = Formula(2, -3), Formula(5, 7)
        self.assertEqual(one + other, Formula(7, 4))
        self.assertEqual(one - other, Formula(-3, -10))
        self.assertEqual(one + 4, Formula(2, 1))
        self.assertEqual(4 + one, Formula(2, 1))
        self.assertEqual(one - 4, Formula(2, -7))
        self.assertEqual(4 - one, Formula(-2, 7))
        self.assertEqual(one + SMALL, Formula(2, SMALL - 3))
        self.assertEqual(-SMALL - Formula(1, 0), Formula(-1, -SMALL))
        self.assertEqual(one, Formula(2, -3))
        joined = one
        joined += other
        self.assertEqual((joined, one), (Formula(7, 4), Formula(2, -3)))

    def test_products(self):
        one = Formula(2, -3)
        self.assertEqual(one * 4, Formula(8, -12))
        self.assertEqual(4 * one, Formula(8, -12))
        self.assertEqual(one * 0, Formula(0, 0))
        self.assertEqual(-5 * one, Formula(-10, 15))
        self.assertEqual(Formula(1, 1) * SMALL, Formula(SMALL, SMALL))
        self.assertEqual(-one, Formula(-2, 3))
        self.assertEqual(-one, 0 - one)
        self.assertEqual(-Formula(SMALL, -SMALL), Formula(-SMALL, SMALL))

    def test_powers(self):
        for times, plus in ((1, 0), (1, 4), (2, -3), (-1, 5), (0, 7), (3, 1), (-2, 3)):
            formula = Formula(times, plus)
            for power in range(12):
                result = formula ** power
                for key in (0, 1, -7):
                    expected = key
                    for _ in range(power):
                        expected = times * expected + plus
                    self.assertEqual(result(key), expected)
        self.assertEqual(Formula(5, 7) ** 0, Formula())
        self.assertEqual(Formula(0, SMALL) ** 60, Formula(0, SMALL))
        self.assertEqual(Formula(-1, SMALL) ** 60, Formula())
        self.assertEqual(Formula(-1, SMALL) ** 59, Formula(-1, SMALL))
        self.assertEqual(Formula(1, 3) ** 60, Formula(1, 180))
        self.assertEqual(Formula(2, 0) ** 49, Formula(2 ** 49, 0))

    def test_what_each_operator_refuses(self):
        formula = Formula(2, 3)
        for thing in NO_SMALL:
            for call in (
                lambda: formula + thing, lambda: formula - thing, lambda: formula * thing,
                lambda: thing + formula, lambda: thing - formula, lambda: thing * formula,
            ):
                # A table on the left side of + or - answers for itself.
                wrong = (NotFormula, NotRow, NotRows) if isinstance(thing, Table) else NotFormula
                with self.subTest(thing=thing), self.assertRaises(wrong):
                    call()
        for thing in NO_SMALL:
            with self.subTest(thing=thing), self.assertRaises(NotFormula):
                formula + thing
            with self.subTest(thing=thing), self.assertRaises(NotFormula):
                formula * thing
        with self.assertRaises(NotFormula):
            formula * formula
        for thing in NO_INTEGERS + (-1, 61, 1000, MOST, -MOST, Formula()):
            with self.subTest(thing=thing), self.assertRaises(NotInteger):
                formula ** thing

    def test_too_large(self):
        large, low = Formula(SMALL, 0), Formula(0, -SMALL)
        for call in (
            lambda: large + Formula(1, 0), lambda: low + -1, lambda: -1 + low, lambda: low - 1, lambda: 1 - low,
            lambda: large - Formula(-1, 0), lambda: large * 2, lambda: 2 * low, lambda: large ** 2,
            lambda: Formula(2, 0) ** 50, lambda: Formula(-2, 0) ** 50, lambda: Formula(1, 10 ** 14) ** 10,
            lambda: Formula(10, 0) ** 60, lambda: SMALL - Formula(0, -SMALL), lambda: Formula(SMALL, SMALL) ** 60,
        ):
            with self.assertRaises(TooLarge):
                call()

    def test_equal(self):
        self.assertTrue(Formula(2, 3) == Formula(2, 3))
        self.assertFalse(Formula(2, 3) != Formula(2, 3))
        for thing in ANYTHING + (Formula(2, 4), Formula(3, 3), Formula(3, 2), "Formula(2, 3)", (2, 3), 3):
            with self.subTest(thing=thing):
                self.assertFalse(Formula(2, 3) == thing)
                self.assertTrue(Formula(2, 3) != thing)
                self.assertFalse(thing == Formula(2, 3))

    def test_repr(self):
        self.assertEqual(repr(Formula(2, -3)), "Formula(2, -3)")
        self.assertEqual(repr(Formula()), "Formula(1, 0)")
        self.assertEqual(repr(Formula(-SMALL, SMALL)), f"Formula({-SMALL}, {SMALL})")


class Statements(unittest.TestCase):
    """Promise 101."""

    def test_each_scan(self):
        keys = (5, -1, 3, 0, 8)
        for scan, order in (
            ("up", (-1, 0, 3, 5, 8)), ("down", (8, 5, 3, 0, -1)),
            ("far", (8, 5, -1, 3, 0)), ("near", (0, -1, 3, 5, 8)),
        ):
            # The distances of 2 * k - 1 are 2, 1, 2, 4 and 7.
            found = statement(keys, Formula(2, -1), scan=scan)
            self.assertEqual(found, (Table((-1, -3), (0, -1), (3, 5), (5, 9), (8, 15)), order))
            self.assertIsInstance(found, tuple)

    def test_rows_with_equal_distances_are_visited_in_ascending_order(self):
        for scan in ("up", "far", "near"):
            self.assertEqual(statement((3, 1, 2), Formula(1, 7), scan=scan)[1], (1, 2, 3))
        self.assertEqual(statement((4, 1, 3, 0), Formula(-1, 4), scan="far")[1], (0, 4, 1, 3))
        self.assertEqual(statement((4, 1, 3, 0), Formula(-1, 4), scan="near")[1], (1, 3, 0, 4))

    def test_bounds(self):
        keys = (1, 2, 3, 4, 5)
        for low, high, inside in (
            (None, None, (1, 2, 3, 4, 5)), (2, None, (2, 3, 4, 5)), (None, 4, (1, 2, 3, 4)), (2, 4, (2, 3, 4)),
            (3, 3, (3,)), (4, 3, ()), (6, None, ()), (None, 0, ()), (-SMALL, SMALL, (1, 2, 3, 4, 5)), (SMALL, -SMALL, ()),
        ):
            table, order = statement(keys, Formula(1, 10), scan="down", low=low, high=high)
            outside = tuple(key for key in keys if key not in inside)
            self.assertEqual(table, Table(*((key, key + 10 if key in inside else key) for key in keys)))
            self.assertEqual(order, inside[::-1] + outside)

    def test_keys_in_any_order_against_plain_words(self):
        chance = Random(101)
        for _ in range(300):
            keys = tuple(chance.sample(range(-30, 30), chance.randrange(12)))
            times, plus = chance.choice((-2, -1, 0, 1, 2, 3)), chance.randrange(-9, 10)
            low, high = (chance.choice((None, *range(-20, 21))) for _ in range(2))
            for scan in SCANS:
                rows, order = statement_of(keys, times, plus, scan, low, high)
                found = statement(keys, Formula(times, plus), scan=scan, low=low, high=high)
                self.assertEqual(found, (Table(*rows), order))

    def test_no_keys_and_forty_keys(self):
        self.assertEqual(statement((), Formula()), (Table(), ()))
        keys = tuple(range(40))
        self.assertEqual(statement(keys, Formula(1, 1)), (Table.shifted(keys, 1), keys))

    def test_by_name(self):
        found = statement(formula=Formula(1, 1), keys=(1, 2), high=1, low=0, scan="down")
        self.assertEqual(found, (Table((1, 2), (2, 2)), (1, 2)))
        with self.assertRaises(TypeError):
            statement((1, 2), Formula(), "up")

    def test_the_first_exception_that_is_due(self):
        no_keys, many, large = (1, 1), tuple(range(41)), (10 ** 20,)
        for keys, formula, scan, low, high, wrong in (
            (no_keys, None, None, "", "", NotKeys), (many, None, None, "", "", NotFormula),
            (many, Formula(), None, "", "", NotScan), (many, Formula(), "up", "", "", NotBound),
            (many, Formula(), "up", None, "", NotBound), (many + large, Formula(SMALL, 1), "up", None, None, TooMany),
            (large, Formula(SMALL, 1), "up", None, None, TooLarge), (no_keys, Formula(), "up", None, None, NotKeys),
            (many + (1,), Formula(), "up", None, None, NotKeys), (many, Formula(), "up", 5, 4, TooMany),
        ):
            with self.subTest(wrong=wrong), self.assertRaises(wrong):
                statement(keys, formula, scan=scan, low=low, high=high)

    def test_too_many_and_too_large(self):
        with self.assertRaises(TooMany) as caught:
            statement(tuple(range(43)), Formula())
        self.assertEqual((caught.exception.many, caught.exception.most), (43, 40))
        with self.assertRaises(TooLarge):
            statement((0, MOST), Formula(1, 1))
        self.assertEqual(statement((0, MOST), Formula(1, 1), high=0)[0], Table((0, 1), (MOST, MOST)))
        self.assertEqual(statement((-MOST,), Formula(-1, 0))[0], Table((-MOST, MOST)))
        self.assertEqual(statement((MOST - 1,), Formula(1, 1))[0], Table((MOST - 1, MOST)))

    def test_wrong_kinds(self):
        for thing in NO_KEYS:
            with self.subTest(thing=thing), self.assertRaises(NotKeys):
                statement((1, thing), Formula())
        for thing in (None, 1, [1, 2], "12", {1: 2}, (1, 2, 1), Table((1, 2)), Formula()):
            with self.subTest(thing=thing), self.assertRaises(NotKeys):
                statement(thing, Formula())
        for thing in NO_FORMULAS:
            with self.subTest(thing=thing), self.assertRaises(NotFormula):
                statement((1,), thing)
        for thing in NO_SCANS:
            with self.subTest(thing=thing), self.assertRaises(NotScan):
                statement((1,), Formula(), scan=thing)
        for thing in NO_BOUNDS:
            with self.subTest(thing=thing), self.assertRaises(NotBound):
                statement((1,), Formula(), low=thing)
            with self.subTest(thing=thing), self.assertRaises(NotBound):
                statement((1,), Formula(), high=thing)


def collide(pair, times, plus, scan, low, high):
    """Whether the two numbers meet a conflict as the keys of such a statement."""
    rows, order = statement_of(pair, times, plus, scan, low, high)
    return execute(rows, order, "fail")[0] != ()


def first_clash(times, plus, scan, low, high):
    """The pair of the first row that collides with one at its new key: 0, powers of two and the bounds are tried."""
    powers = [2 ** many for many in range(55)]
    numbers = [0, *powers, *(-power for power in powers), *(bound for bound in (low, high) if bound is not None)]
    for key in sorted(numbers, key=abs):
        pair = tuple(sorted({key, times * key + plus}))
        if (low is None or low <= key) and (high is None or key <= high) and len(pair) == 2:
            if collide(pair, times, plus, scan, low, high):
                return pair
    return None


class Clashes(unittest.TestCase):
    """Promise 102."""

    NUMBERS = (*range(-13, 14), -5000, -4999, -200, -60, -59, 59, 60, 200, 4999, 5000)
    BOUNDS = (
        (None, None), (None, -3), (None, 0), (None, 5), (-3, None), (0, None), (5, None), (-4, -4), (2, 2), (0, 0),
        (2, 3), (-1, 1), (-4, 6), (-9, 2), (1, 12), (3, 2), (6, -6),
    )

    def assert_clash(self, times, plus, scan, low, high):
        """Return the pair, if there is one; it must meet a conflict."""
        formula = Formula(times, plus)
        pair = clash(formula, scan=scan, low=low, high=high)
        if pair is None:
            return None
        self.assertIsInstance(pair, tuple)
        one, other = pair
        self.assertLess(one, other)
        self.assertTrue(collide(pair, times, plus, scan, low, high), (times, plus, scan, low, high, pair))
        if max(abs(number) for key in pair for number in (key, times * key + plus)) <= MOST:
            table, order = statement(pair, formula, scan=scan, low=low, high=high)
            self.assertNotEqual(Fail()(table, order).stop, ())
        return pair

    def test_small_formulas_against_all_pairs_of_integers(self):
        pairs = list(combinations(self.NUMBERS, 2))
        for times, plus in product((0, 1, -1, 2, -2, 3), (-4, -1, 0, 1, 3)):
            for scan, (low, high) in product(SCANS, self.BOUNDS):
                found = self.assert_clash(times, plus, scan, low, high)
                if found is not None:
                    # Keys that a table can have, and not only integers.
                    self.assertLess(max(abs(number) for number in found), 10 ** 6)
                else:
                    for pair in pairs:
                        self.assertFalse(collide(pair, times, plus, scan, low, high), (times, plus, scan, low, high))

    def test_fifteen_digits(self):
        for times, plus, scan, low, high, expected in (
            (1, 1, "down", None, None, False), (1, 1, "down", None, SMALL, True), (1, 1, "down", -SMALL, None, False),
            (1, -1, "up", -SMALL, None, True), (1, -1, "up", None, SMALL, False), (1, SMALL, "down", 0, 0, True),
            (2, -SMALL, "far", SMALL, None, False), (2, -SMALL, "far", SMALL - 1, None, True),
            (2, -SMALL, "far", SMALL, SMALL, False), (2, -SMALL, "up", None, SMALL, False),
            (2, -SMALL, "up", None, None, True), (2, SMALL, "down", -SMALL, None, False),
            (2, SMALL, "down", None, None, True), (2, SMALL, "up", None, -SMALL, False),
            (2, SMALL, "up", None, 1 - SMALL, True), (SMALL, SMALL, "far", None, None, False),
            (-SMALL, SMALL, "far", None, None, False), (SMALL, -SMALL, "far", None, SMALL, True),
            (SMALL, 0, "far", 0, SMALL, True), (SMALL, 0, "far", 0, 0, False), (0, SMALL, "up", SMALL, SMALL, False),
            (0, SMALL, "up", SMALL - 1, SMALL, True), (0, SMALL, "near", None, None, True),
            (0, -SMALL, "far", SMALL, SMALL, True), (-1, SMALL - 1, "far", (SMALL - 1) // 2, (SMALL - 1) // 2, False),
            (-1, SMALL, "far", (SMALL - 1) // 2, (SMALL - 1) // 2, True), (1, 0, "near", None, None, False),
            (SMALL, 1, "near", SMALL, -SMALL, False), (1, SMALL, "down", -SMALL, -SMALL, True),
        ):
            found = self.assert_clash(times, plus, scan, low, high)
            self.assertIs(found is not None, expected, (times, plus, scan, low, high, found))

    def test_numbers_of_fifteen_digits_against_keys_near_and_far(self):
        chance = Random(102)

        def number():
            return chance.choice((0, 1, -1, chance.randrange(-9, 10), chance.randrange(-SMALL, SMALL + 1), SMALL, -SMALL))

        for _ in range(400):
            times, plus, low, high = number(), number(), *(chance.choice((None, number())) for _ in range(2))
            near = [0, plus, -plus, low or 0, high or 0]
            near += [(bound - plus) // times for bound in (low or 0, high or 0) if times]
            near += [-plus // (times - 1)] if times != 1 else []
            keys = [key + step for key in near for step in (-2, -1, 0, 1, 2)] + [10 ** 40, -10 ** 40, 10 ** 18, -10 ** 18]
            for scan in SCANS:
                if self.assert_clash(times, plus, scan, low, high) is None:
                    for key in keys:
                        if key != times * key + plus:
                            pair = (key, times * key + plus)
                            self.assertFalse(collide(pair, times, plus, scan, low, high), (times, plus, scan, low, high))

    def test_the_examples_of_the_document(self):
        self.assertEqual(safe_scans(Formula() + 1), ("down",))
        self.assertEqual(safe_scans(3 * Formula() - 4), ("far",))
        self.assertEqual(safe_scans(5 - Formula()), ())
        self.assertEqual(safe_scans(Formula()), SCANS)
        self.assertEqual(safe_scans(Formula() - 1), ("up", "far", "near"))
        self.assertEqual(safe_scans(Formula(0, 5), low=5, high=5), SCANS)
        self.assertEqual(safe_scans(Formula(0, 5), low=6, high=5), SCANS)
        self.assertEqual(safe_scans(Formula(0, 5)), ())

    def test_the_scans_for_which_it_is_none(self):
        for times, plus, (low, high) in product((-2, -1, 0, 1, 2), (-3, 0, 2), self.BOUNDS):
            formula = Formula(times, plus)
            found = safe_scans(formula, low=low, high=high)
            self.assertEqual(
                found, tuple(scan for scan in SCANS if clash(formula, scan=scan, low=low, high=high) is None),
            )

    def assert_first_clashes(self, times, plus, low, high):
        formula = Formula(times, plus)
        pairs = [first_clash(times, plus, scan, low, high) for scan in SCANS]
        found = [clash(formula, scan=scan, low=low, high=high) for scan in SCANS]
        self.assertEqual(found, pairs, (times, plus, low, high))
        safe = tuple(scan for scan, pair in zip(SCANS, pairs) if pair is None)
        self.assertEqual(safe_scans(formula, low=low, high=high), safe, (times, plus, low, high))

    def test_each_pair_is_the_nearest_that_is_found_by_trying(self):
        # Any pair that collides will do; these are small ones, where there are such.
        bounds = (None, *range(-4, 5))
        for times, plus, low, high in product(range(-2, 4), (-5, -3, 0, 2, 4), bounds, bounds):
            self.assert_first_clashes(times, plus, low, high)

    def test_each_pair_is_the_nearest_with_great_numbers(self):
        chance = Random(13)

        def number():
            size = chance.choice((2, 9, 100, 2 ** 20, 2 ** 33, 2 ** 48, SMALL))
            return chance.choice((0, 1, -1, size, -size, size - 1, 1 - size, chance.randrange(-size, size + 1)))

        for _ in range(1500):
            times, plus, low, high = number(), number(), *(chance.choice((None, number())) for _ in range(2))
            if times != 1 and chance.randrange(3) == 0:
                low = max(-SMALL, min(SMALL, -plus // (times - 1) + chance.randrange(-1, 2)))
            if low is not None and chance.randrange(3) == 0:
                high = chance.choice((low, -low, min(SMALL, low + 1)))
            self.assert_first_clashes(times, plus, low, high)

    def test_a_thousand_answers_take_less_than_a_tenth_of_a_second(self):
        for times, plus, low, high in (
            (1, 0, None, None), (1, 1, None, None), (3, -4, None, None), (-3, 7, None, None), (2, 5, 9, None),
            (1, 5, -SMALL, SMALL), (2, -SMALL, None, None), (SMALL, SMALL, None, SMALL), (0, 7, 7, 7), (2, 5, 9, 3),
        ):
            formula = Formula(times, plus)
            calls = [lambda: safe_scans(formula, low=low, high=high)]
            calls += [lambda scan=scan: clash(formula, scan=scan, low=low, high=high) for scan in SCANS]
            for call in calls:
                self.assertLess(min(self.time_of(call) for _ in range(3)), 0.1, (times, plus, low, high))

    def time_of(self, call):
        begun = time.process_time()
        for _ in range(1000):
            call()
        return time.process_time() - begun

    def test_by_name(self):
        self.assertIsNone(clash(formula=Formula(1, 1), scan="down", high=None, low=3))
        self.assertIsNotNone(clash(Formula(1, 1)))
        self.assertEqual(safe_scans(formula=Formula(1, 1), high=None, low=3), ("down",))
        self.assertEqual(safe_scans(Formula(1, 1), high=3), ())
        with self.assertRaises(TypeError):
            clash(Formula(), "up")
        with self.assertRaises(TypeError):
            safe_scans(Formula(), 1)

    def test_wrong_arguments(self):
        for thing in NO_FORMULAS:
            for call in (
                lambda: clash(thing), lambda: clash(thing, scan=None, low="", high=""), lambda: safe_scans(thing),
                lambda: safe_scans(thing, low="", high=""),
            ):
                with self.subTest(thing=thing), self.assertRaises(NotFormula):
                    call()
        for thing in NO_SCANS:
            for bound in (None, ""):
                with self.subTest(thing=thing), self.assertRaises(NotScan):
                    clash(Formula(), scan=thing, low=bound, high=bound)
        for thing in NO_BOUNDS:
            for call in (
                lambda: clash(Formula(), low=thing), lambda: clash(Formula(), high=thing),
                lambda: safe_scans(Formula(), low=thing), lambda: safe_scans(Formula(), high=thing),
            ):
                with self.subTest(thing=thing), self.assertRaises(NotBound):
                    call()


if __name__ == "__main__":
    unittest.main()

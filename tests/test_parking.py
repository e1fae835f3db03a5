import unittest

from itertools import permutations

from model import (
    all_rings, all_small_tables, competing_pairs, execute, from_parts, keys_of, passing, sets_of_rows, small_tables,
)
from rowclash.errors import Competing, NotRows, NotTable
from rowclash.parking import enough, fewest_parked, needs, shows_needs
from rowclash.tables import Table
from samples import ANYTHING, NO_SETS_OF_ROWS, NO_TABLES, line_of_rows

FORTY_IN_CHAINS = from_parts([range(40, 55), range(9, 0, -1), (30, 35, 31)], (), range(10, 23))
FORTY_IN_RINGS = from_parts((), [range(8), (20, 10, 15), (30, 33, 32, 31, 35), (40, 41)], range(50, 72))
FORTY_IN_ALL = from_parts([range(12), (50, 40)], [range(20, 29), (63, 60, 61, 62), (71, 70)], range(80, 91))
LARGE = (
    FORTY_IN_CHAINS, FORTY_IN_RINGS, FORTY_IN_ALL, line_of_rows(40), tuple(zip(range(40), [*range(1, 40), 0])),
    tuple(zip(range(39), [*range(1, 39), 0])) + ((39, 39),), tuple((key, key) for key in range(40)),
)


def is_enough(rows, parked, always):
    """By going through all orders of the rows that are not parked."""
    rest = [row for row in rows if row[0] not in parked]
    told = [execute(rest, order, "abort")[0] == () for order in permutations(keys_of(rest))]
    return all(told) if always else any(told)


def first_smallest(rows, always):
    return next(parked for parked in sets_of_rows(rows) if is_enough(rows, parked, always))


def all_pieces(rows, always):
    """Each piece with the number of rows that it needs."""
    wanted = dict(rows)
    if not always:
        return {ring: 1 for ring in all_rings(rows)}
    pieces = {(row, wanted[row]): 1 for row in wanted if wanted[row] in wanted and wanted[row] != row}
    for ring in all_rings(rows):
        if len(ring) % 2 == 1:
            pieces[ring] = (len(ring) + 1) // 2
    return pieces


def tables_that_fit(most, step):
    """Small tables without competing rows."""
    for rows in [*all_small_tables(most), *small_tables(most + 1, step)]:
        if not competing_pairs(rows):
            yield rows


class Enough(unittest.TestCase):
    """Promises 50 and 51: enough."""

    def test_all_sets_of_rows_of_small_tables(self):
        for rows in tables_that_fit(4, 17):
            table = Table(*rows)
            for parked in sets_of_rows(rows):
                self.assertIs(enough(table, parked), is_enough(rows, parked, False))
                self.assertIs(enough(table, parked, always=False), is_enough(rows, parked, False))
                self.assertIs(enough(table, parked, always=True), is_enough(rows, parked, True))

    def test_by_name(self):
        table = Table((1, 2), (2, 3), (3, 1))
        self.assertIs(enough(table=table, rows=(1,)), True)
        self.assertIs(enough(rows=(1,), table=table, always=True), False)
        self.assertIs(enough(table, rows=(1, 3), always=True), True)
        self.assertIs(enough(table, ()), False)
        with self.assertRaises(TypeError):
            enough(table, (1,), True)

    def test_no_rows(self):
        self.assertIs(enough(Table(), ()), True)
        self.assertIs(enough(Table(), (), always=True), True)

    def test_forty_rows(self):
        line, ring = Table(*line_of_rows(40)), Table(*line_of_rows(39), (40, 1))
        self.assertIs(enough(line, ()), True)
        self.assertIs(enough(line, (), always=True), False)
        self.assertIs(enough(line, tuple(range(2, 41, 2)), always=True), True)
        self.assertIs(enough(line, tuple(range(2, 39, 2)), always=True), False)
        self.assertIs(enough(ring, ()), False)
        self.assertIs(enough(ring, (17,)), True)
        self.assertIs(enough(ring, tuple(range(1, 40, 2)), always=True), True)
        self.assertIs(enough(ring, tuple(range(3, 40, 2)), always=True), False)


class FewestParked(unittest.TestCase):
    """Promise 51: fewest_parked."""

    def test_small_tables(self):
        for rows in tables_that_fit(4, 17):
            for always in (False, True):
                self.assertEqual(fewest_parked(Table(*rows), always=always), first_smallest(rows, always))
            self.assertEqual(fewest_parked(Table(*rows)), first_smallest(rows, False))

    def test_rows_in_chains_and_rings_against_all_sets(self):
        for rows in (
            from_parts([(5, 1, 8, 2)], [(3, 9, 4)], (0,)), from_parts((), [(1, 6, 3, 2, 5, 4, 7)]),
            from_parts((), [(1, 8, 2, 6, 3, 5)]), from_parts([(3, 2, 1, 5, 6)], [(0, 9), (4, 7, 8)]),
            from_parts([(6, 1, 5, 2, 4, 3, 9)]), from_parts([(1, 6, 2, 5, 3)], [(4, 9, 7, 8)]),
        ):
            wanted = dict(rows)
            waits = [(row, new) for row, new in rows if new in wanted and new != row]
            first = next(
                parked for parked in sets_of_rows(rows) if all(row in parked or new in parked for row, new in waits)
            )
            self.assertEqual(fewest_parked(Table(*rows), always=True), first)

    def test_forty_rows(self):
        for rows, parked, always in (
            (FORTY_IN_CHAINS, (), (2, 4, 6, 8, 35, 41, 43, 45, 47, 49, 51, 53)),
            (FORTY_IN_RINGS, (0, 10, 30, 40), (0, 2, 4, 6, 10, 15, 30, 31, 32, 40)),
            (FORTY_IN_ALL, (20, 60, 70), (0, 2, 4, 6, 8, 10, 20, 21, 23, 25, 27, 40, 60, 62, 70)),
            (line_of_rows(40), (), tuple(range(1, 41, 2))),
            (tuple(zip(range(40), [*range(1, 40), 0])), (0,), tuple(range(0, 40, 2))),
            (tuple((key, key) for key in range(40)), (), ()),
        ):
            table = Table(*rows)
            self.assertEqual(len(table), 40)
            self.assertEqual(fewest_parked(table), parked)
            self.assertEqual(fewest_parked(table, always=True), always)
            self.assertIs(enough(table, parked), True)
            self.assertIs(enough(table, always, always=True), True)

    def test_by_name_and_no_rows(self):
        table = Table((1, 2), (2, 3), (3, 1))
        self.assertEqual(fewest_parked(table=table), (1,))
        self.assertEqual(fewest_parked(always=True, table=table), (1, 2))
        self.assertEqual(fewest_parked(Table()), ())
        self.assertEqual(fewest_parked(Table(), always=True), ())
        with self.assertRaises(TypeError):
            fewest_parked(table, True)


class Needs(unittest.TestCase):
    """Promise 51: needs."""

    def assert_needs(self, rows, always, pieces):
        """Whether these are pieces that show it, by the document's words alone."""
        allowed = all_pieces(rows, always)
        self.assertIsInstance(pieces, tuple)
        self.assertEqual(list(pieces), sorted(pieces))
        told = [row for piece in pieces for row in piece]
        self.assertEqual(len(told), len(set(told)))
        self.assertEqual(sum(allowed[piece] for piece in pieces), len(first_smallest(rows, always)))

    def test_small_tables(self):
        for rows in tables_that_fit(4, 17):
            table = Table(*rows)
            self.assert_needs(rows, False, needs(table))
            self.assert_needs(rows, False, needs(table, always=False))
            self.assert_needs(rows, True, needs(table, always=True))

    def test_forty_rows(self):
        for rows in LARGE:
            table = Table(*rows)
            for always in (False, True):
                self.assertIs(shows_needs(table, needs(table, always=always), always=always), True)
        self.assertEqual(needs(Table(*FORTY_IN_RINGS)), (tuple(range(8)), (10, 15, 20), (30, 33, 32, 31, 35), (40, 41)))
        pieces = needs(Table(*FORTY_IN_ALL), always=True)
        self.assertEqual(pieces, tuple(sorted(pieces)))
        self.assertIn(tuple(range(20, 29)), pieces)
        self.assertEqual(len(pieces), 6 + 1 + 1 + 2 + 1)

    def test_by_name_and_no_rows(self):
        table = Table((1, 2), (2, 3), (3, 1))
        self.assertEqual(needs(table=table), ((1, 2, 3),))
        self.assertEqual(needs(always=True, table=table), ((1, 2, 3),))
        self.assertEqual(needs(Table((1, 2), (2, 9))), ())
        self.assertEqual(needs(Table((1, 2), (2, 9)), always=True), ((1, 2),))
        self.assertEqual((needs(Table()), needs(Table(), always=True)), ((), ()))
        with self.assertRaises(TypeError):
            needs(table, True)


class ShowsNeeds(unittest.TestCase):
    """Promise 51: shows_needs."""

    def test_all_tuples_of_tuples_of_small_tables(self):
        for rows in tables_that_fit(3, 37):
            keys = keys_of(rows)
            table = Table(*rows)
            parts = [part for many in range(1, 4) for part in permutations(keys, many)]
            things = [()] + [(one,) for one in parts] + [(one, other) for one in parts for other in parts]
            for always in (False, True):
                allowed, fewest = all_pieces(rows, always), len(first_smallest(rows, always))
                for thing in things:
                    told = [row for piece in thing for row in piece]
                    good = all(piece in allowed for piece in thing) and len(told) == len(set(told))
                    good = good and list(thing) == sorted(thing) and sum(allowed[piece] for piece in thing) == fewest
                    self.assertIs(shows_needs(table, thing, always=always), good, (rows, thing, always))

    def test_by_name(self):
        table = Table((1, 2), (2, 3), (3, 4), (4, 1))
        self.assertIs(shows_needs(table=table, thing=((1, 2, 3, 4),)), True)
        self.assertIs(shows_needs(thing=((1, 2, 3, 4),), table=table, always=True), False)
        self.assertIs(shows_needs(table, thing=((2, 3), (4, 1)), always=True), True)
        self.assertIs(shows_needs(table, ((1, 2), (3, 4)), always=True), True)
        with self.assertRaises(TypeError):
            shows_needs(table, (), True)

    def test_rings_of_two_rows(self):
        table = Table((1, 2), (2, 1))
        for thing, some, always in ((((1, 2),), True, True), (((2, 1),), False, True), ((), False, False)):
            self.assertIs(shows_needs(table, thing), some)
            self.assertIs(shows_needs(table, thing, always=True), always)

    def test_rings_of_odd_and_even_length(self):
        for many in range(2, 10):
            ring = tuple(range(many))
            table = Table(*zip(ring, (*ring[1:], 0)))
            self.assertIs(shows_needs(table, (ring,)), True)
            self.assertIs(shows_needs(table, (ring,), always=True), many % 2 == 1 or many == 2)
            pairs = tuple((row, row + 1) for row in range(0, many - 1, 2))
            self.assertIs(shows_needs(table, pairs, always=True), many % 2 == 0)
            self.assertEqual(len(fewest_parked(table, always=True)), (many + 1) // 2)
            for turned in range(1, many):
                # A turned ring is no ring; one of two rows is a pair of which one waits for the other.
                thing = (ring[turned:] + ring[:turned],)
                self.assertIs(shows_needs(table, thing), False)
                self.assertIs(shows_needs(table, thing, always=True), many == 2)

    def assert_changed_pieces_show_nothing(self, table, pieces, always):
        self.assertIs(shows_needs(table, pieces, always=always), True)
        for at, piece in enumerate(pieces):
            left_out = pieces[:at] + pieces[at + 1:]
            for thing in (
                left_out, pieces[:at + 1] + pieces[at:], pieces + (piece,), (piece,) + left_out + (piece,),
                (*pieces[:at], list(piece), *pieces[at + 1:]), (*pieces[:at], piece[:-1], *pieces[at + 1:]),
                (*pieces[:at], piece + piece[:1], *pieces[at + 1:]), (*pieces[:at], piece * 2, *pieces[at + 1:]),
                (*pieces[:at], *piece, *pieces[at + 1:]), (*pieces[:at], (), *pieces[at:]),
                (*pieces[:at], (piece,), *pieces[at + 1:]), (*pieces[:at], None, *pieces[at + 1:]),
                (*pieces[:at], str(piece), *pieces[at:]), (*pieces[:at], table, *pieces[at:]),
            ):
                with self.subTest(thing=thing):
                    self.assertIs(shows_needs(table, thing, always=always), False)
        for thing in (list(pieces), (pieces,), [pieces], dict.fromkeys(pieces), pieces[::-1], pieces + ((),)):
            if thing != pieces:
                with self.subTest(thing=thing):
                    self.assertIs(shows_needs(table, thing, always=always), False)

    def test_changed_pieces(self):
        for rows in LARGE + (from_parts([(1, 5, 3)], [(2, 7, 4), (6, 8)], (9,)),):
            table = Table(*rows)
            for always in (False, True):
                self.assert_changed_pieces_show_nothing(table, needs(table, always=always), always)

    def test_other_pieces_than_those_of_needs(self):
        table = Table(*line_of_rows(5))
        for thing in (((1, 2), (3, 4)), ((1, 2), (4, 5)), ((2, 3), (4, 5))):
            self.assertIs(shows_needs(table, thing, always=True), True)
        for thing in (((1, 2), (2, 3)), ((1, 2),), ((2, 1), (3, 4)), ((1, 3), (4, 5)), ((1, 2), (3, 4), (5, 6))):
            self.assertIs(shows_needs(table, thing, always=True), False)
        self.assertIs(shows_needs(table, ()), True)
        self.assertIs(shows_needs(table, (), always=True), False)

    def test_a_still_row_waits_for_no_row(self):
        table = Table((1, 1), (2, 3), (3, 9))
        self.assertIs(shows_needs(table, ((2, 3),), always=True), True)
        for thing in (((1, 1),), ((1, 1), (2, 3)), ((1,), (2, 3)), ((3, 9),), ((1, 2),)):
            self.assertIs(shows_needs(table, thing, always=True), False)
        self.assertIs(shows_needs(table, ((1,),)), False)

    def test_a_bool_is_no_key(self):
        ring = Table((0, 1), (1, 0))
        for always in (False, True):
            self.assertIs(shows_needs(ring, ((0, 1),), always=always), True)
            for piece in ((False, 1), (0, True), (False, True)):
                self.assertIs(shows_needs(ring, (piece,), always=always), False)

    def test_any_value(self):
        # None of the values has a key of these tables, but () shows that nothing must be parked.
        ring, still = ((100, 101), (101, 102), (102, 100)), ((100, 100),)
        for rows, fewest in ((((100, 101), (101, 100)), 1), (ring, 1), (still, 0)):
            table = Table(*rows)
            for thing in ANYTHING:
                for always in (False, True):
                    with self.subTest(thing=thing):
                        nothing = isinstance(thing, tuple) and thing == () and fewest == 0
                        self.assertIs(shows_needs(table, thing, always=always), nothing)
                        for told in ((thing,), ((100, 101), thing), ((100, thing),), ((thing, 101),)):
                            self.assertIs(shows_needs(table, told, always=always), False)


class WrongArguments(unittest.TestCase):
    """Promises 3 and 50: NotTable, NotRows, Competing."""

    COMPETING = Table((7, 8), (8, 7), (1, 3), (4, 9), (2, 9), (3, 9))

    def test_no_table(self):
        for thing in NO_TABLES:
            for call in (
                lambda: enough(thing, ()), lambda: enough(thing, (), always=True), lambda: enough(thing, None),
                lambda: fewest_parked(thing), lambda: fewest_parked(thing, always=True),
                lambda: needs(thing), lambda: needs(thing, always=True),
                lambda: shows_needs(thing, ()), lambda: shows_needs(thing, (), always=True),
            ):
                with self.subTest(thing=thing), self.assertRaises(NotTable):
                    call()

    def test_no_set_of_rows(self):
        for table in (Table((1, 2), (2, 9)), Table((1, 9), (2, 9))):
            for rows in NO_SETS_OF_ROWS:
                for always in (False, True):
                    with self.subTest(rows=rows), self.assertRaises(NotRows):
                        enough(table, rows, always=always)

    def test_competing(self):
        for always in (False, True):
            for call in (
                lambda: enough(self.COMPETING, (1, 4), always=always),
                lambda: enough(self.COMPETING, (2, 3, 4), always=always),
                lambda: fewest_parked(self.COMPETING, always=always), lambda: needs(self.COMPETING, always=always),
                lambda: shows_needs(self.COMPETING, (), always=always),
                lambda: shows_needs(self.COMPETING, None, always=always),
            ):
                with self.assertRaises(Competing) as caught:
                    call()
                self.assertEqual(caught.exception.pair, (2, 3))
        with self.assertRaises(Competing) as caught:
            fewest_parked(Table((1, 2), (2, 2)))
        self.assertEqual(caught.exception.pair, (1, 2))

    def test_the_table_stays_as_it_is(self):
        table = Table((1, 2), (2, 1), (3, 4))
        before = table.rows
        for always in (False, True):
            enough(table, (1,), always=always)
            pieces = needs(table, always=always)
            shows_needs(table, pieces, always=always)
            self.assertEqual(fewest_parked(table, always=always), fewest_parked(table, always=always))
        self.assertEqual(table.rows, before)

    def test_some_order_passes_without_parking_if_and_only_if_nothing_must_be_parked(self):
        for rows in tables_that_fit(4, 17):
            self.assertIs(fewest_parked(Table(*rows)) == (), bool(passing(rows)))


if __name__ == "__main__":
    unittest.main()

import inspect
import unittest

from itertools import combinations, product
from random import Random

from model import (
    all_rings, execute, from_parts, keys_of, large_tables, results, ringed_tables, sets_of_rows, tables_to_go_through,
)
from rowclash.errors import Impossible, Missing, NotKeys, NotRows, NotTable, TooMany
from rowclash.replacing import (
    can_be_held, can_be_left, count_held, each_held, fewest_left, left_fate, most_left, order_leaving, shows_fewest,
)
from rowclash.rules import Replace
from rowclash.tables import Table
from rowclash.waits import rings
from samples import ANYTHING, MOST, NO_INTEGERS, NO_KEYS, NO_ROWS, NO_SETS_OF_ROWS, NO_TABLES, line_of_rows

SMALL = tables_to_go_through()
# Closed rings of even and odd length, rings that rows outside want keys of, chains, a tree, still rows, some wanted.
MIXED = from_parts([(1, 2, 3, 4), (9, 8)], [(10, 12, 11), (13, 14), (15, 16, 17, 18, 19)], (20, 21, 22)) + (
    (30, 31), (31, 32), (32, 30), (33, 31), (34, 33), (35, 36), (36, 35), (37, 36), (40, 90), (41, 90), (42, 90),
    (43, 41), (44, 41), (45, 44), (46, 42), (50, 20), (51, 50), (52, 21), (53, 22), (54, 53), (55, 54),
)


def ring_of(many, start=0):
    """So many rows in a ring, in the order of their keys."""
    return tuple((start + at, start + (at + 1) % many) for at in range(many))


LARGE = (
    MIXED, line_of_rows(40), ring_of(40), ring_of(39) + ((99, 99),), ring_of(39) + ((99, 5),),
    tuple((key, 99) for key in range(40)), tuple((key, key) for key in range(40)), tuple((key, 0) for key in range(40)),
    tuple((key, (key + 1) // 2 + 100) for key in range(40)), tuple((key, key // 2 - 1) for key in range(40)),
    sum((ring_of(8, start) for start in range(0, 40, 8)), ()), sum((ring_of(5, start) for start in range(0, 40, 5)), ()),
    ring_of(20) + tuple((100 + key, key) for key in range(0, 20, 2)) + tuple((200 + key, key) for key in range(10)),
    ring_of(21) + tuple((100 + key, key) for key in (0, 7)) + tuple((200 + key, 100 + key) for key in (0, 7)) + (
        ring_of(15, 300)),
) + tuple(large_tables(6, 70))


def left_by_words(rows, left):
    """Whether the set can be left, by the conditions of the document."""
    wanted = dict(rows)
    news = [wanted[row] for row in left]
    if len(set(news)) != len(news) or any(set(ring) <= set(left) for ring in rings(Table(*rows))):
        return False
    for row in wanted:
        competing = [other for other in left if wanted[other] == wanted[row] and other != row]
        if row in left or wanted[row] == row and competing:
            continue
        if wanted[row] == row:
            return False
        if not any(wanted[other] != other for other in competing) and row not in news:
            return False
    return True


def held_by_words(rows, most=3000):
    """All tuples that can be held, by the conditions of the document; None if they are more than `most`."""
    news = [new for _, new in rows]
    found, known = [()], set(key for key, _ in rows if key not in news)
    for key in sorted(set(news)):
        known.add(key)
        decided = [row for row in rows if set(row) <= known]
        found = [keys + part for keys in found for part in ((), (key,))]
        found = [keys for keys in found if all(one in keys or other in keys for one, other in decided)]
        if len(found) > most:
            return None
    closed = [ring for ring in rings(Table(*rows)) if sum(news.count(key) for key in ring) == len(ring)]
    return sorted(keys for keys in found if not any(set(ring) <= set(keys) for ring in closed))


def good_pieces(rows, pieces, many):
    """Whether these pieces show that so many keys are held at least, by the words of the document."""
    wanted = dict(rows)
    keys = [key for piece in pieces for key in {*piece, *(wanted[row] for row in piece)}]
    odd = [ring for ring in rings(Table(*rows)) if len(ring) % 2 == 1]
    if list(pieces) != sorted(pieces) or len(set(keys)) != len(keys):
        return False
    if not all(len(piece) == 1 or piece in odd for piece in pieces):
        return False
    return sum(1 if len(piece) == 1 else (len(piece) + 1) // 2 for piece in pieces) == many


def longest_first(found):
    return min(found, key=lambda part: (-len(part), part))


def shortest_first(found):
    return min(found, key=lambda part: (len(part), part))


class Left(unittest.TestCase):
    """Promise 70: can_be_left, order_leaving."""

    def test_all_sets_of_rows_of_small_tables_against_all_orders(self):
        for rows in SMALL:
            table, told = Table(*rows), results(rows).left
            for left in sets_of_rows(rows):
                self.assertIs(can_be_left(table, left), left in told, (rows, left))
                if left not in told:
                    with self.assertRaises(Impossible):
                        order_leaving(table, left)
                    continue
                order = order_leaving(table, left)
                self.assertIsInstance(order, tuple)
                self.assertEqual(sorted(order), list(keys_of(rows)))
                self.assertEqual(tuple(row for row, _ in execute(rows, order, "replace")[1]), left)

    def test_forty_rows(self):
        chance = Random(70)
        for rows in LARGE:
            table, keys = Table(*rows), keys_of(rows)
            self.assertEqual(len(table), 40)
            for _ in range(10):
                left = Replace()(table, tuple(chance.sample(keys, 40))).left
                self.assertIs(can_be_left(table, left), True)
                order = order_leaving(table, left)
                self.assertEqual(sorted(order), list(keys))
                self.assertEqual(tuple(row for row, _ in execute(rows, order, "replace")[1]), left)
                row = chance.choice(keys)
                changed = tuple(sorted({*left} ^ {row}))
                self.assertIs(can_be_left(table, changed), left_by_words(rows, changed))
                if not can_be_left(table, changed):
                    with self.assertRaises(Impossible):
                        order_leaving(table, changed)

    def test_each_condition(self):
        for rows, left, expected in (
            (((1, 9), (2, 9)), (1, 2), False), (((1, 9), (2, 9)), (1,), True), (((1, 9), (2, 9)), (), False),
            (((1, 1),), (), False), (((1, 1), (2, 1)), (2,), True), (((1, 1), (2, 1)), (1,), False),
            (((1, 1), (2, 1), (3, 2)), (1, 3), True), (((1, 1), (2, 1), (3, 2)), (2, 3), True),
            (((1, 1), (2, 1), (3, 2)), (3,), False), (((1, 2), (2, 3)), (1,), True), (((1, 2), (2, 3)), (2,), False),
            (((1, 2), (2, 1)), (1, 2), False), (((1, 2), (2, 1)), (1,), True), (((1, 2), (2, 1)), (2,), True),
            (((1, 2), (2, 1), (3, 2)), (1, 2), False), (((1, 2), (2, 1), (3, 2)), (2, 3), True),
        ):
            self.assertIs(can_be_left(Table(*rows), left), expected, (rows, left))

    def test_no_rows(self):
        self.assertIs(can_be_left(Table(), ()), True)
        self.assertEqual(order_leaving(Table(), ()), ())

    def test_by_name(self):
        table = Table((1, 2), (2, 3))
        self.assertIs(can_be_left(table=table, rows=(1,)), True)
        self.assertIs(can_be_left(rows=(), table=table), False)
        self.assertEqual(order_leaving(rows=(1,), table=table), (1, 2))


class Fates(unittest.TestCase):
    """Promise 70: left_fate."""

    def test_each_row_of_small_tables_against_all_orders(self):
        for rows in SMALL:
            table, told = Table(*rows), results(rows)
            for row in keys_of(rows):
                self.assertEqual(left_fate(table, row), told.fate(told.leaving[row]), (rows, row))

    def test_forty_rows(self):
        for row, fate in (
            (1, "always"), (2, "sometimes"), (10, "sometimes"), (20, "sometimes"), (21, "never"), (22, "sometimes"),
            (40, "sometimes"), (51, "always"), (52, "always"), (43, "sometimes"), (55, "always"),
        ):
            self.assertEqual(left_fate(Table(*MIXED), row), fate, row)
        for rows in LARGE:
            chance, table = Random(71), Table(*rows)
            left = [Replace()(table, tuple(chance.sample(keys_of(rows), 40))).left for _ in range(60)]
            for row in keys_of(rows):
                inside, fate = sum(row in part for part in left), left_fate(table, row)
                self.assertIn(fate, ("always", "sometimes", "never"))
                if inside < 60:
                    self.assertNotEqual(fate, "always")
                if inside > 0:
                    self.assertNotEqual(fate, "never")

    def test_by_name(self):
        self.assertEqual(left_fate(table=Table((1, 2)), key=1), "always")
        self.assertEqual(left_fate(key=1, table=Table((1, 1), (2, 1))), "never")


class Held(unittest.TestCase):
    """Promise 71: can_be_held, count_held, each_held."""

    def test_all_tuples_of_keys_of_small_tables_against_all_orders(self):
        for rows in SMALL:
            table, held = Table(*rows), results(rows).held
            keys = sorted({key for row in rows for key in row} | {7, -1})
            for many in range(len(keys) + 1):
                for part in combinations(keys, many):
                    self.assertIs(can_be_held(table, part), part in held, (rows, part))

    def test_small_tables_against_all_orders(self):
        for rows in SMALL:
            self.assertEqual(count_held(Table(*rows)), len(results(rows).held))
            self.assertEqual(list(each_held(Table(*rows))), sorted(results(rows).held))

    def test_forty_rows(self):
        gone_through = 0
        for rows in LARGE:
            table, found = Table(*rows), held_by_words(rows)
            if found is None:
                continue
            gone_through += 1
            self.assertEqual(count_held(table), len(found))
            for keys in found[:20]:
                self.assertIs(can_be_held(table, keys), True)
                for key in range(-2, 102):
                    changed = tuple(sorted({*keys} ^ {key}))
                    self.assertIs(can_be_held(table, changed), changed in found)
            if len(found) <= 1000:
                self.assertEqual(list(each_held(table)), found)
        self.assertGreater(gone_through, 8)

    def test_numbers_of_rings_and_chains(self):
        # Keys in a line, or around, no two of which side by side are not held.
        line, around = [1, 2], [2, 1]
        while len(line) < 42:
            line.append(line[-1] + line[-2])
            around.append(around[-1] + around[-2])
        self.assertEqual(count_held(Table(*line_of_rows(40))), line[39])
        for many in range(2, 41):
            closed = count_held(Table(*ring_of(many)))
            self.assertEqual(closed, around[many] - 1)
            if many < 40:
                # The row outside has a key that is never held, so its new key always is.
                self.assertEqual(count_held(Table(*ring_of(many), (99, 1))), line[many - 1])

    def test_just_a_thousand_and_more(self):
        thousand = ring_of(5) + ring_of(5, 10) + ring_of(5, 20) + tuple((key, key) for key in range(30, 55))
        found = list(each_held(Table(*thousand)))
        self.assertEqual((len(thousand), len(found), len(set(found))), (40, 1000, 1000))
        self.assertEqual(found, held_by_words(thousand))
        chains = from_parts([range(-9 * at, 2 - 9 * at) for at in range(1, 11)])
        for rows, many in ((chains, 1024), (ring_of(5) + ring_of(5, 10) + from_parts([(20, 21, 22, 23, 24, 25)]), 1300)):
            table = Table(*rows)
            self.assertEqual(count_held(table), many)
            with self.assertRaises(TooMany) as caught:
                next(each_held(table))
            self.assertEqual((caught.exception.many, caught.exception.most), (many, 1000))

    def test_the_session_of_the_document(self):
        self.assertEqual(list(each_held(Table((1, 5), (2, 5), (3, 1)))), [(1, 5)])

    def test_by_name_and_no_rows(self):
        table = Table((1, 2), (2, 3))
        self.assertIs(can_be_held(table=table, keys=(2,)), True)
        self.assertIs(can_be_held(keys=(3,), table=table), False)
        self.assertEqual((count_held(table=table), list(each_held(table=table))), (2, [(2,), (2, 3)]))
        self.assertEqual((count_held(Table()), list(each_held(Table()))), (1, [()]))
        self.assertIs(can_be_held(Table(), ()), True)
        self.assertIs(can_be_held(Table(), (1,)), False)
        self.assertIs(can_be_held(table, (-MOST, 2, MOST)), False)
        self.assertIs(can_be_held(Table((-MOST, MOST)), (MOST,)), True)

    def test_it_is_a_generator(self):
        found = each_held(Table((1, 2), (2, 1)))
        self.assertTrue(inspect.isgenerator(found))
        self.assertEqual([next(found), next(found), next(found, None)], [(1,), (2,), None])


class MostAndFewest(unittest.TestCase):
    """Promise 72: most_left, fewest_left."""

    def assert_most_and_fewest(self, rows, held):
        table = Table(*rows)
        self.assertEqual(most_left(table), longest_first(held))
        fewest, pieces = fewest_left(table)
        self.assertEqual(fewest, shortest_first(held))
        self.assertIsInstance(pieces, tuple)
        self.assertTrue(good_pieces(rows, pieces, len(fewest)), (rows, pieces))
        self.assertIs(shows_fewest(table, (fewest, pieces)), True)

    def test_small_tables_against_all_orders(self):
        for rows in SMALL:
            self.assert_most_and_fewest(rows, results(rows).held)

    def test_rows_in_rings_with_rows_that_want_keys_of_them(self):
        chance = Random(72)
        for many in range(2, 10):
            for outside in range(5):
                rows = list(ring_of(many))
                for key in range(20, 20 + outside):
                    rows.append((key, chance.choice([row[0] for row in rows] + [99])))
                self.assert_most_and_fewest(tuple(rows), held_by_words(rows))

    def test_forty_rows(self):
        for rows in LARGE:
            held = held_by_words(rows)
            if held is not None:
                self.assert_most_and_fewest(rows, held)
            fewest, pieces = fewest_left(Table(*rows))
            self.assertIs(can_be_held(Table(*rows), fewest), True)
            self.assertTrue(good_pieces(rows, pieces, len(fewest)))

    def test_forty_rows_in_rings_and_chains(self):
        for rows, most, fewest in (
            (ring_of(40), range(39), range(0, 40, 2)), (ring_of(39), range(38), [0, *range(1, 39, 2)]),
            (ring_of(39) + ((99, 5),), range(39), [0, *range(1, 39, 2)]),
            (ring_of(39) + ((99, 4),), range(39), [0, 2, 4, *range(5, 39, 2)]),
            (line_of_rows(40), range(2, 42), range(2, 41, 2)),
            (tuple((key, 99) for key in range(40)), [99], [99]),
            (tuple((key, key) for key in range(40)), range(40), range(40)),
        ):
            table = Table(*rows)
            self.assertEqual(most_left(table), tuple(most))
            self.assertEqual(fewest_left(table)[0], tuple(fewest))
        self.assertEqual(fewest_left(Table(*ring_of(39)))[1], (tuple(range(39)),))

    def test_the_session_of_the_document(self):
        table = Table((1, 2), (2, 3), (3, 4))
        self.assertEqual(fewest_left(table), ((2, 3), ((1,), (3,))))
        self.assertEqual(most_left(table), (2, 3, 4))

    def test_by_name_and_no_rows(self):
        self.assertEqual(most_left(table=Table((1, 2), (2, 1))), (1,))
        self.assertEqual(fewest_left(table=Table((1, 2)))[0], (2,))
        self.assertEqual((most_left(Table()), fewest_left(Table())), ((), ((), ())))


class ShowsFewest(unittest.TestCase):
    """Promise 72: shows_fewest."""

    def test_all_pairs_of_keys_and_pieces_of_small_tables(self):
        for rows in [*SMALL[:150], *SMALL[150::67]]:
            if len(rows) > 4:
                continue
            held, keys = results(rows).held, keys_of(rows)
            shortest = [part for part in held if len(part) == min(map(len, held))]
            odd = [ring for ring in all_rings(rows) if len(ring) % 2 == 1]
            parts = sorted([(key,) for key in keys] + odd + [(key, key + 1) for key in keys if key + 1 in keys])
            several = [pieces for many in range(len(parts) + 1) for pieces in combinations(parts, many)]
            for part, pieces in product(sorted(held) + [(), (1,), (9,)], several):
                good = part in shortest and good_pieces(rows, pieces, len(part))
                self.assertIs(shows_fewest(Table(*rows), (part, pieces)), good, (rows, part, pieces))

    def test_another_shortest_tuple(self):
        table = Table((1, 2), (2, 1))
        for held in ((1,), (2,)):
            for pieces in (((1,),), ((2,),)):
                self.assertIs(shows_fewest(table, (held, pieces)), True)
        for thing in (((1,), ((1,), (2,))), ((1, 2), ((1,), (2,))), ((), ()), ((1,), ()), ((1,), ((1, 2),))):
            self.assertIs(shows_fewest(table, thing), False)
        table = Table(*ring_of(5))
        for held in ((0, 1, 3), (0, 2, 3), (0, 2, 4), (1, 2, 4), (1, 3, 4)):
            self.assertIs(shows_fewest(table, (held, (tuple(range(5)),))), True)
        self.assertIs(shows_fewest(table, ((0, 1, 2), (tuple(range(5)),))), False)
        self.assertIs(shows_fewest(table, ((0, 1, 2, 3), (tuple(range(5)),))), False)
        table = Table(*ring_of(40))
        for held in (range(0, 40, 2), range(1, 40, 2)):
            for rows in (range(0, 40, 2), range(1, 40, 2)):
                self.assertIs(shows_fewest(table=table, thing=(tuple(held), tuple((row,) for row in rows))), True)

    def test_rings_of_even_length_and_turned_rings_are_no_pieces(self):
        self.assertIs(shows_fewest(Table(*ring_of(4)), ((0, 2), ((0, 1, 2, 3),))), False)
        self.assertIs(shows_fewest(Table(*ring_of(4)), ((0, 2), ((0,), (2,)))), True)
        self.assertIs(shows_fewest(Table(*ring_of(3)), ((0, 1), ((0, 1, 2),))), True)
        for ring in ((1, 2, 0), (2, 0, 1), (0, 2, 1), (0, 1), (0, 1, 2, 0), (0, 1, 2) * 2):
            self.assertIs(shows_fewest(Table(*ring_of(3)), ((0, 1), (ring,))), False)

    def test_pieces_with_a_key_in_common(self):
        table = Table((1, 9), (2, 9), (3, 8))
        self.assertIs(shows_fewest(table, ((8, 9), ((1,), (3,)))), True)
        self.assertIs(shows_fewest(table, ((8, 9), ((2,), (3,)))), True)
        for pieces in (((1,), (2,)), ((1,), (1,)), ((3,), (1,)), ((1,), (2,), (3,)), ((1,),), ((3,),)):
            self.assertIs(shows_fewest(table, ((8, 9), pieces)), False)
        chain = Table((1, 2), (2, 3))
        self.assertIs(shows_fewest(chain, ((2,), ((1,),))), True)
        self.assertIs(shows_fewest(chain, ((2,), ((2,),))), True)
        self.assertIs(shows_fewest(chain, ((2, 3), ((1,), (2,)))), False)

    def assert_changed_pairs_show_nothing(self, table):
        held, pieces = fewest_left(table)
        self.assertIs(shows_fewest(table, (held, pieces)), True)
        things = [
            [held, pieces], (list(held), pieces), (held, list(pieces)), (held,), (pieces, held), (held, pieces, ()),
            (held, pieces, pieces), ((held, pieces),), {held: pieces}, None, str((held, pieces)), (held, None),
            (None, pieces), (dict.fromkeys(held), pieces), (held + held[-1:], pieces),
            (held[:-1], pieces), (held[::-1], pieces), (held, pieces[::-1]), (held + (10 ** 20,), pieces),
            (tuple(str(key) for key in held), pieces), (held, dict.fromkeys(pieces)), (held, (pieces,)),
        ]
        for at, piece in enumerate(pieces):
            for other in (list(piece), piece + piece, piece[:-1], piece[0], None, (piece,), piece + (10 ** 20,), ""):
                things.append((held, (*pieces[:at], other, *pieces[at + 1:])))
            things.append((held, pieces[:at] + pieces[at + 1:]))
            things.append((held, pieces[:at] + (piece,) + pieces[at:]))
        for thing in things:
            if thing != (held, pieces):
                with self.subTest(thing=thing):
                    self.assertIs(shows_fewest(table, thing), False)

    def test_changed_pairs(self):
        for rows in (*LARGE, *ringed_tables(), ((1, 2), (2, 3), (3, 4))):
            self.assert_changed_pairs_show_nothing(Table(*rows))

    def test_no_rows(self):
        self.assertIs(shows_fewest(Table(), ((), ())), True)
        for thing in ((), ((),), [(), ()], ([], ()), ((), []), ((), (), ()), ((1,), ()), ((), ((),)), (((),), ())):
            self.assertIs(shows_fewest(Table(), thing), False)

    def test_a_bool_is_no_key(self):
        table = Table((0, 1), (5, 5))
        self.assertIs(shows_fewest(table, ((1, 5), ((0,), (5,)))), True)
        self.assertIs(shows_fewest(table, ((True, 5), ((0,), (5,)))), False)
        self.assertIs(shows_fewest(table, ((1, 5), ((False,), (5,)))), False)

    def test_any_value(self):
        for rows in ((), ((100, 101),), ((100, 101), (101, 102), (102, 100))):
            table = Table(*rows)
            held, pieces = fewest_left(table)
            for thing in ANYTHING:
                nothing = isinstance(thing, tuple) and thing == ((), ()) and rows == ()
                empty = isinstance(thing, tuple) and thing == () and rows == ()
                with self.subTest(thing=thing):
                    self.assertIs(shows_fewest(table, thing), nothing)
                    self.assertIs(shows_fewest(table, (held, thing)), empty)
                    self.assertIs(shows_fewest(table, (thing, pieces)), empty)
                    self.assertIs(shows_fewest(table, (held, pieces + (thing,))), False)
                    self.assertIs(shows_fewest(table, (held + (thing,), pieces)), False)


class WrongArguments(unittest.TestCase):
    """Promise 3: NotTable, NotKeys, NotRows, Missing, Impossible."""

    def test_no_table(self):
        for thing in NO_TABLES:
            for call in (
                lambda: can_be_left(thing, ()), lambda: can_be_left(thing, None), lambda: order_leaving(thing, ()),
                lambda: order_leaving(thing, None), lambda: left_fate(thing, 1), lambda: left_fate(thing, None),
                lambda: can_be_held(thing, ()), lambda: can_be_held(thing, None), lambda: count_held(thing),
                lambda: next(each_held(thing)), lambda: most_left(thing), lambda: fewest_left(thing),
                lambda: shows_fewest(thing, ((), ())), lambda: shows_fewest(thing, None),
            ):
                with self.subTest(thing=thing), self.assertRaises(NotTable):
                    call()

    def test_no_set_of_rows(self):
        for table in (Table((1, 2), (2, 9)), Table((1, 1), (2, 2)), Table((1, 2), (2, 1))):
            for rows in NO_SETS_OF_ROWS:
                for function in (can_be_left, order_leaving):
                    with self.subTest(rows=rows), self.assertRaises(NotRows):
                        function(table, rows)

    def test_missing(self):
        for thing in NO_ROWS:
            with self.subTest(thing=thing), self.assertRaises(Missing):
                left_fate(Table((1, 2), (2, 9)), thing)

    def test_no_ascending_tuple_of_keys(self):
        wrong = [thing for thing in NO_INTEGERS if thing not in ((), (1,), (1, 2))]
        wrong += [(1, thing) for thing in NO_KEYS] + [(thing,) for thing in NO_KEYS] + [0, 1, MOST, "12", [2, 9], {2: 9}]
        wrong += [(2, 1), (1, 1), (2, 9, 9), (9, 2), (1, 3, 2), (-1, -2), (MOST, MOST + 1), (-MOST - 1, 0)]
        for thing in wrong:
            with self.subTest(thing=thing), self.assertRaises(NotKeys):
                can_be_held(Table((1, 2), (2, 9)), thing)

    def test_the_table_stays_as_it_is(self):
        table = Table(*MIXED)
        for function in (
            count_held, most_left, fewest_left, lambda table: shows_fewest(table, fewest_left(table)),
            lambda table: can_be_left(table, (1,)), lambda table: left_fate(table, 1),
            lambda table: can_be_held(table, (1,)),
        ):
            self.assertEqual(function(table), function(table))
        self.assertEqual(table, Table(*MIXED))


if __name__ == "__main__":
    unittest.main()

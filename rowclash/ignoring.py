"""Ignore: which rows move, and which stay because another row was in their way."""

from rowclash.arguments import check_key, check_set_of_rows, check_table
from rowclash.errors import Impossible, TooMany
from rowclash.moving import can_move, moving_order, other_rows
from rowclash.passing import MOST_YIELDED
from rowclash.waits import path, trees


def is_possible(table, rows):
    """Whether there is an order in which just these rows move."""
    check_table(table)
    check_set_of_rows(table, rows)
    taken = [table[row] for row in rows]
    return can_move(table, rows) and all([key in taken for key, _ in trees(table)])


def order_moving(table, rows):
    """An order in which just these rows move."""
    if not is_possible(table, rows):
        raise Impossible("in no order just these rows move")
    others = other_rows(table, rows)
    # As long as no row has moved, a row that waits stays where it is. A row that
    # wants a free key stays when another row holds it.
    waiting = tuple([row for row in others if table[row] in table])
    wanting = tuple([row for row in others if table[row] not in table])
    return waiting + moving_order(table, rows) + wanting


def count_possible(table):
    """How many sets are possible."""
    many = 1
    for _, rows in trees(table):
        many = many * len(rows)
    return many


def each_possible(table):
    """Yield the possible sets in ascending order, at most 1,000."""
    many = count_possible(table)
    if many > MOST_YIELDED:
        raise TooMany(many, MOST_YIELDED)
    found = [()]
    for _, rows in trees(table):
        paths = paths_of(table, rows)
        found = [moved + steps for moved in found for steps in paths]
    yield from sorted([tuple(sorted(moved)) for moved in found])


def paths_of(table, rows):
    """The sets of the rows of each path that begins at one of these rows."""
    return [tuple(sorted(path(table, row)[0])) for row in rows]


def most_moved(table):
    """The first of the largest possible sets."""
    moved = []
    for _, rows in trees(table):
        # The trees have no row in common, so the first of the longest paths of each make the first set.
        paths = sorted(paths_of(table, rows))
        moved.extend(max(paths, key=len))
    return tuple(sorted(moved))


def fewest_moved(table):
    """The first of the smallest possible sets."""
    return tuple(sorted([wanting_rows(table, key)[0] for key, _ in trees(table)]))


def wanting_rows(table, key):
    """The rows that want the key, in ascending order."""
    return [row for row, new in table.rows if new == key]


def move_fate(table, key):
    """Whether the row moves always, sometimes or never."""
    check_table(table)
    check_key(table, key)
    steps, end = path(table, key)
    if end != "free":
        return "never"
    # A row that waits can be visited too early, one that competes too late.
    if len(steps) == 1 and len(wanting_rows(table, table[key])) == 1:
        return "always"
    return "sometimes"

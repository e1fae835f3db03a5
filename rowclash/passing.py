"""Abort: the orders in which no conflict happens."""

from math import factorial

from rowclash.arguments import check_table
from rowclash.checks import are_rows, is_order
from rowclash.errors import Competing, Ringed, TooMany
from rowclash.rules import Abort
from rowclash.waits import chains, groups, path, rings, waiting_pairs

MOST_YIELDED = 1000


def check_no_competing(table):
    """Raise an exception if two rows compete."""
    competing = groups(table)
    if competing:
        raise Competing(competing[0][:2])


def check_no_ring(table):
    """Raise an exception if there is a ring."""
    found = rings(table)
    if found:
        raise Ringed(found[0])


def verdict(table):
    """Why no order passes, or the first order that does: a pair of a word and a tuple of rows."""
    competing = groups(table)
    if competing:
        # Rows of different groups are different, so the first group has the first pair.
        return "compete", competing[0][:2]
    found = rings(table)
    if found:
        return "ring", found[0]
    return "order", first_order(table)


def next_rows(rows, waiting, visited):
    """The rows that can move when the others have, in ascending order.

    rows: all rows; waiting: a dict from each row that waits to the row that it waits for.
    """
    done = set(visited)
    return [row for row in rows if row not in done and (row not in waiting or waiting[row] in done)]


def first_order(table):
    """The first order that passes, in a table without competing rows and without rings."""
    rows = [row[0] for row in table.rows]
    waiting = dict(waiting_pairs(table))
    order = []
    while len(order) < len(rows):
        order.append(next_rows(rows, waiting, order)[0])
    return tuple(order)


def shows_verdict(table, thing):
    """Whether it is a pair of a word and competing rows, a ring, or an order that passes."""
    check_table(table)
    if not isinstance(thing, tuple) or len(thing) != 2 or not are_rows(table, thing[1]):
        return False
    word, rows = thing
    if word == "compete":
        return is_competing_pair(table, rows)
    if word == "ring":
        return rows in rings(table)
    return word == "order" and is_order(table, rows) and passes(table, rows)


def passes(table, order):
    """Whether no conflict happens in the order."""
    abort = Abort()
    return abort(table, order).stop == ()


def is_competing_pair(table, rows):
    return len(rows) == 2 and rows[0] < rows[1] and table[rows[0]] == table[rows[1]]


def passing_orders(table):
    """How many orders pass."""
    if groups(table) or rings(table):
        return 0
    # Each chain is visited in one order, from the row that it ends with back to its first row.
    many = factorial(len(table))
    for chain in chains(table):
        many = many // factorial(len(chain))
    return many


def all_orders_that_pass(table):
    """The ascending list of the orders, in a table without competing rows and without rings."""
    rows = [row[0] for row in table.rows]
    waiting = dict(waiting_pairs(table))
    # Each of these beginnings can be continued, so they are never more than the orders.
    begun = [()]
    for _ in rows:
        begun = [order + (row,) for order in begun for row in next_rows(rows, waiting, order)]
    return begun


def each_passing(table):
    """Yield the orders that pass in ascending order, at most 1,000."""
    many = passing_orders(table)
    if many > MOST_YIELDED:
        raise TooMany(many, MOST_YIELDED)
    if many > 0:
        yield from all_orders_that_pass(table)


def fits_at_end(table):
    """Whether a database accepts the statement that checks keys at its end alone."""
    return not groups(table)


def stages(table):
    """The fewest statements, sets of rows, that pass one after the other in any order of their rows."""
    check_no_competing(table)
    check_no_ring(table)
    by_length = {}
    for row, _ in table.rows:
        steps, _ = path(table, row)
        by_length.setdefault(len(steps), []).append(row)
    return tuple([tuple(by_length[length]) for length in sorted(by_length)])

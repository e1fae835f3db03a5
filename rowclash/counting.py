"""How many orders of a table lead somewhere, without going through them.

Each row is thought of as visited at a time of its own from 0 to 1. A list of
numbers c stands for the sum of c[k] * t ** k / k!: so all numbers are integers.
"""

from math import comb, factorial, perm

from rowclash.arguments import check_key, check_table
from rowclash.covers import farthest_first
from rowclash.ignoring import is_possible
from rowclash.passing import check_no_ring
from rowclash.waits import path


def ignoring_moves(table, key):
    """In how many orders the row moves with Ignore."""
    check_table(table)
    check_key(table, key)
    steps, end = path(table, key)
    if end != "free":
        return 0
    return orders_of_paths(table, [steps], False)


def ignoring_exactly(table, rows):
    """In how many orders just the rows of the set move with Ignore."""
    if not is_possible(table, rows):
        return 0
    waited_for = [table[row] for row in rows]
    paths = [path(table, row)[0] for row in rows if row not in waited_for]
    return orders_of_paths(table, paths, True)


def orders_of_paths(table, paths, whole):
    """In how many orders the rows of these paths move; with whole=True no rows that wait for the first of each.

    paths: of different trees.
    """
    many = factorial(len(table))
    for steps in paths:
        sizes = [count_wanting(table, table[row]) - 1 for row in steps]
        if whole:
            sizes.append(count_wanting(table, steps[0]))
        # Among the orders of all rows, each order of those that matter here is as frequent as the others.
        concerned = len(steps) + sum(sizes)
        many = many // factorial(concerned) * orders_along(len(steps), sizes)
    return many


def count_wanting(table, key):
    """How many rows have this new key."""
    return [row[1] for row in table.rows].count(key)


def orders_along(many, sizes):
    """The number of orders in which so many rows, the rows of a path from its end back, move one after the other.

    Their times split the time into spans. Some rows must be visited outside
    of each span, as they would take the next row's place in it, or move on
    behind the last row. sizes: the numbers of these rows for each span.
    """
    shares = [1]
    for size in sizes:
        shares = combined(shares, outside_of_span(size), False)
    concerned = factorial(many + sum(sizes))
    # Joining spans adds one to each power of t for each row between two of them.
    return sum([part * (concerned // factorial(many + at)) for at, part in enumerate(shares)])


def outside_of_span(size):
    """(1 - t) ** size, the share of the times of so many rows that are all outside of a span of length t."""
    return [-perm(size, at) if at & 1 else perm(size, at) for at in range(size + 1)]


def combined(one, other, at_once):
    """The product of two lists: at one time t, or with t split in all ways into a span for each of them."""
    sums = [0] * (len(one) + len(other) - 1)
    for at, part in enumerate(one):
        for step, factor in enumerate(other):
            ways = comb(at + step, at) if at_once else 1
            sums[at + step] = sums[at + step] + ways * part * factor
    return sums


def moving_at(table):
    """For each row that is not still the share of the orders, if it is visited at the time t, in which it moves."""
    moving = {}
    for row in farthest_first(table):
        if table[row] != row:
            shares = [1]
            for other in moving_to(table, row):
                # The other one removes this row if it moves earlier.
                shares = combined(shares, [1] + [-part for part in moving[other]], True)
            moving[row] = shares
    return moving


def moving_to(table, key):
    """The rows that want the key, without a still one."""
    return [row for row, new in table.rows if new == key and row != key]


def over_all_times(shares, many):
    """The number of orders of so many rows in which what the shares are about happens."""
    return sum([part * (factorial(many) // factorial(at + 1)) for at, part in enumerate(shares)])


def replacing_moves(table, key):
    """In how many orders the row moves with Replace."""
    check_table(table)
    check_key(table, key)
    check_no_ring(table)
    if table[key] == key:
        return 0
    return over_all_times(moving_at(table)[key], len(table))


def replacing_leaves(table, key):
    """In how many orders the row is left with Replace."""
    check_table(table)
    check_key(table, key)
    check_no_ring(table)
    moving = moving_at(table)
    # The list that each other row is multiplied with has its numbers `scale` times as large, to be integers.
    shares, scale = [1], 1
    for other in moving_to(table, table[key]):
        if other != key:
            shares = combined(shares, not_moving_after(moving[other]), True)
            scale = scale * factorial(len(moving[other]))
    if table[key] == key:
        # A still row is left if none of the others ever moves, so none after the time 0.
        return factorial(len(table)) * shares[0] // scale
    return over_all_times(combined(shares, moving[key], True), len(table)) // scale


def not_moving_after(shares):
    """The share of the orders in which a row does not move after the time t, factorial(len(shares)) times as large."""
    scale = factorial(len(shares))
    moves = over_all_times(shares, len(shares))
    return [scale - moves] + [scale * part for part in shares]

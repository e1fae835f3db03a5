"""Rows that move one after the other while all others stay, as Ignore and Fail let them."""

from rowclash.passing import first_order
from rowclash.waits import path


def other_rows(table, rows):
    """The set of the rows of the table that are not in the set."""
    return tuple([row for row, _ in table.rows if row not in rows])


def can_move(table, rows):
    """Whether just the rows of the set can move, each of them without a conflict.

    None of them is still, no ring is among them, no two of them compete, and
    with each row that waits the row that it waits for is one of them.
    """
    if len(set([table[row] for row in rows])) != len(rows):
        return False
    return all([leads_out(table, row, rows) for row in rows])


def leads_out(table, row, rows):
    """Whether the path of the row ends free, and has rows of the set alone."""
    # A path that ends otherwise would bring a still row or a whole ring into the set.
    steps, end = path(table, row)
    return end == "free" and all([step in rows for step in steps])


def moving_order(table, rows):
    """An order of the rows of a set that can move, in which each of them does."""
    return first_order(table - other_rows(table, rows))

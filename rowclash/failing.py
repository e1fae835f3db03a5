"""Fail: at which rows a statement can stop, and which rows have moved by then."""

from rowclash.arguments import check_key, check_set_of_rows, check_table
from rowclash.errors import Impossible
from rowclash.moving import can_move, moving_order, other_rows


def can_stop(table, rows, key):
    """Whether a statement can stop at the row when just the rows of the set have moved."""
    check_table(table)
    check_set_of_rows(table, rows)
    check_key(table, key)
    if not can_move(table, rows) or key in rows:
        return False
    return is_held_up(table, rows, key)


def is_held_up(table, rows, key):
    """Whether a row that has not moved finds a conflict when the rows of the set have moved."""
    new = table[key]
    if new == key:
        return False
    return new in table and new not in rows or new in [table[row] for row in rows]


def order_stopping(table, rows, key):
    """An order in which just the rows of the set move, and the statement stops at the row then."""
    if not can_stop(table, rows, key):
        raise Impossible("in no order just these rows move before the statement stops at this row")
    moved = moving_order(table, rows) + (key,)
    return moved + other_rows(table, moved)


def stops(table):
    """The set of all rows at which a statement can stop."""
    check_table(table)
    wanted = [row[1] for row in table.rows]
    # A row that waits finds a conflict at once, one that competes when another row has moved.
    return tuple([row for row, new in table.rows if new != row and (new in table or wanted.count(new) > 1)])

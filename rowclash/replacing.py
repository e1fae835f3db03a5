"""Replace: which rows are left, and which keys are held, when rows in the way are removed."""

from rowclash.arguments import check_key, check_set_of_rows, check_table
from rowclash.checks import are_different_keys, is_ascending
from rowclash.covers import all_covers, closed_rings, count_covers, is_cover, wanted_keys
from rowclash.errors import Impossible, NotKeys, TooMany
from rowclash.moving import other_rows
from rowclash.passing import MOST_YIELDED, first_order
from rowclash.pieces import are_pieces, fewest_covering, keys_held, pieces_of
from rowclash.waits import rings


def can_be_left(table, rows):
    """Whether there is an order in which just these rows are not removed."""
    check_table(table)
    check_set_of_rows(table, rows)
    # Which of the rows holds a key at the end.
    holders = {table[row]: row for row in rows}
    if len(holders) != len(rows) or not all([goes(table, row, holders) for row in other_rows(table, rows)]):
        return False
    return not any([all([row in rows for row in ring]) for ring in rings(table)])


def goes(table, row, holders):
    """Whether some order removes the row. holders: a dict from the keys held at the end to the rows that hold them."""
    new = table[row]
    if row in holders:
        # Its holder waits for the row, or competes with it if the row is still.
        return True
    return new in holders and holders[new] != new


def order_leaving(table, rows):
    """An order in which just these rows are not removed."""
    if not can_be_left(table, rows):
        raise Impossible("in no order just these rows are left")
    others = other_rows(table, rows)
    holders = {table[row]: row for row in rows}
    order = ()
    for row in first_order(table - others):
        # A row that no row removes from its key moves, and is removed from its new key at once.
        order = order + tuple([other for other in others if table[other] == table[row] and other not in holders])
        order = order + (row,)
    return order + other_rows(table, order)


def left_fate(table, key):
    """Whether the row is left always, sometimes or never."""
    check_table(table)
    check_key(table, key)
    new = table[key]
    coming = [row for row, wanted in table.rows if wanted == key and row != key]
    competing = [row for row, wanted in table.rows if wanted == new and row != new and row != key]
    if not coming and not competing:
        return "always"
    if new != key:
        # It is left if those that compete with it are visited first, and then the row itself.
        return "sometimes"
    wanted = wanted_keys(table)
    return "sometimes" if all([row in wanted for row in coming]) else "never"


def can_be_held(table, keys):
    """Whether these are all keys that are held at the end of some order."""
    check_table(table)
    if not are_ascending_keys(keys):
        raise NotKeys("keys is an ascending tuple of keys")
    return is_cover(table, keys)


def are_ascending_keys(thing):
    return are_different_keys(thing) and is_ascending(thing)


def count_held(table):
    """How many tuples of keys can be held."""
    check_table(table)
    return count_covers(table)


def each_held(table):
    """Yield the tuples of keys that can be held in ascending order, at most 1,000."""
    many = count_held(table)
    if many > MOST_YIELDED:
        raise TooMany(many, MOST_YIELDED)
    yield from all_covers(table)


def most_left(table):
    """The first of the longest tuples of keys that can be held."""
    check_table(table)
    lacking = [max(ring) for ring in closed_rings(table)]
    return tuple([key for key in wanted_keys(table) if key not in lacking])


def fewest_left(table):
    """The first of the shortest tuples of keys that can be held, and pieces that show that none is shorter."""
    check_table(table)
    rows = table.rows
    held = ()
    for key in wanted_keys(table):
        # A key is taken if some shortest tuple has it beside those that are taken already.
        others = [row for row in rows if key not in row]
        if fewest_covering(others) < fewest_covering(rows):
            held = held + (key,)
            rows = others
    return held, tuple(sorted(pieces_of(table.rows)))


def shows_fewest(table, thing):
    """Whether it is any pair of a shortest tuple and pieces that show that none is shorter."""
    check_table(table)
    if not isinstance(thing, tuple) or len(thing) != 2:
        return False
    held, pieces = thing
    if not are_ascending_keys(held) or not is_cover(table, held) or not are_pieces(table, pieces):
        return False
    return sum([keys_held(piece) for piece in pieces]) == len(held)

"""What counts as an integer, a key, a small integer, a tuple of keys, a set of rows, an order.

Each function takes any value and returns a bool.
"""

KEY_BOUND = 10 ** 30
SMALL_BOUND = 10 ** 15


def is_integer(thing):
    # For Python a bool is an int; here it never is.
    return isinstance(thing, int) and not isinstance(thing, bool)


def is_key(thing):
    return is_integer(thing) and -KEY_BOUND < thing < KEY_BOUND


def is_small(thing):
    return is_integer(thing) and -SMALL_BOUND < thing < SMALL_BOUND


def is_pair(thing):
    """Whether it is a pair (key, new key)."""
    return isinstance(thing, tuple) and len(thing) == 2 and is_key(thing[0]) and is_key(thing[1])


def are_different_keys(thing):
    """Whether it is a tuple of different keys, in any order."""
    if not isinstance(thing, tuple) or not all([is_key(part) for part in thing]):
        return False
    return len(set(thing)) == len(thing)


def are_rows(table, thing):
    """Whether it is a tuple of keys of rows of the table, in any order, also with some of them repeated."""
    return isinstance(thing, tuple) and all([part in table for part in thing])


def is_ascending(things):
    """Whether each item of the tuple is greater than the one before it."""
    return all([one < other for one, other in zip(things, things[1:])])


def is_set_of_rows(table, thing):
    """Whether it is an ascending tuple of keys of rows of the table."""
    return are_rows(table, thing) and is_ascending(thing)


def is_order(table, thing):
    """Whether it is a tuple that has each key of the table once."""
    return are_rows(table, thing) and len(thing) == len(table) and len(set(thing)) == len(thing)

"""Tables: rows with a key, and the new key that a statement gives them."""

from rowclash.checks import are_different_keys, is_integer, is_key, is_pair, is_set_of_rows, is_small
from rowclash.errors import Missing, NotInteger, NotKey, NotKeys, NotRow, NotRows, TooLarge, TooMany, Twice

MOST_ROWS = 40


def check_rows(rows):
    """Raise an exception if these are not the rows of a table."""
    if not all([is_pair(row) for row in rows]):
        raise NotRow("a row is a pair (key, new key) of two keys")
    seen = {}
    for key, _ in rows:
        if key in seen:
            raise Twice(key)
        seen[key] = True
    if len(rows) > MOST_ROWS:
        raise TooMany(len(rows), MOST_ROWS)


def new_keys(rows):
    """A dict from the key of each row to its new key, in ascending order."""
    check_rows(rows)
    return {key: new for key, new in sorted(rows)}


def rows_to_add(other):
    """The pairs of what is added to a table, which need not be rows yet."""
    if isinstance(other, Table):
        return other.rows
    if not isinstance(other, tuple):
        raise NotRow("only a table or a tuple of pairs can be added to a table")
    return other


class Table:
    """At most 40 rows, each with a key of its own and a new key."""

    def __init__(self, *rows):
        # The keys stand in ascending order: `rows` depends on it, and giving
        # a row another new key keeps it so.
        self._new_keys = new_keys(rows)

    @classmethod
    def shifted(cls, keys, by):
        """The table with the new key `key + by` for each of the keys."""
        if not are_different_keys(keys):
            raise NotKeys("keys is a tuple of different keys")
        if not is_small(by):
            raise NotInteger("by is an integer with at most 15 digits")
        if len(keys) > MOST_ROWS:
            raise TooMany(len(keys), MOST_ROWS)
        rows = [(key, key + by) for key in keys]
        if not all([is_key(row[1]) for row in rows]):
            raise TooLarge("a new key would have more than 30 digits")
        return cls(*rows)

    @property
    def rows(self):
        """The pairs (key, new key) in ascending order."""
        return tuple(self._new_keys.items())

    def __getitem__(self, key):
        if key not in self:
            raise Missing("this is not the key of a row")
        return self._new_keys[key]

    def __setitem__(self, key, new):
        if key not in self:
            raise Missing("this is not the key of a row")
        if not is_key(new):
            raise NotKey("a new key is an integer with at most 30 digits")
        self._new_keys[key] = new

    def __contains__(self, thing):
        return is_integer(thing) and thing in self._new_keys

    def __iter__(self):
        raise TypeError("a table is not iterated over: take its rows")

    def __len__(self):
        return len(self._new_keys)

    def __eq__(self, other):
        return isinstance(other, Table) and self._new_keys == other._new_keys

    def __repr__(self):
        told = [f"{key}>{new}" for key, new in self.rows]
        return f"Table({', '.join(told)})"

    def __add__(self, other):
        rows = self.rows + rows_to_add(other)
        return Table(*rows)

    def __iadd__(self, other):
        self._new_keys = new_keys(self.rows + rows_to_add(other))
        return self

    def __sub__(self, rows):
        if not is_set_of_rows(self, rows):
            raise NotRows("only an ascending tuple of keys of rows can be taken from a table")
        kept = [row for row in self.rows if row[0] not in rows]
        return Table(*kept)

"""Outcomes: what a table has come to when a statement has been executed."""

from rowclash.checks import is_integer
from rowclash.errors import Missing


class Outcome:
    """Where each row is at the end, and where the statement stopped, if it did."""

    def __init__(self, rows, stop, ends):
        """Made by the rules alone, so nothing is checked here.

        rows: the rows of the table; stop: (row, holder) or (); ends: the
        pairs (row, key it holds) of all rows that are not removed, ascending.
        """
        self._triple = (rows, stop, ends)

    @property
    def rows(self):
        """The rows of the table as they were when the statement was executed."""
        return self._triple[0]

    @property
    def stop(self):
        """The pair (row, holder) at which the statement stopped, or ()."""
        return self._triple[1]

    @property
    def ends(self):
        """The pairs (row, key that it holds) of the rows that are not removed."""
        return self._triple[2]

    @property
    def moved(self):
        """The set of the rows that hold their new key, but not their first one."""
        new_keys = dict(self.rows)
        return tuple([row for row, key in self.ends if key == new_keys[row] and key != row])

    @property
    def left(self):
        """The set of the rows that are not removed."""
        return tuple([end[0] for end in self.ends])

    @property
    def held(self):
        """All keys that are held at the end, in ascending order."""
        return tuple(sorted([end[1] for end in self.ends]))

    def __getitem__(self, key):
        if not is_integer(key) or key not in dict(self.rows):
            raise Missing("this is not the key of a row")
        return dict(self.ends).get(key)

    def __iter__(self):
        raise TypeError("an outcome is not iterated over: take its ends")

    def __len__(self):
        return len(self.ends)

    def __eq__(self, other):
        return isinstance(other, Outcome) and self._triple == other._triple

    def __lt__(self, other):
        if not isinstance(other, Outcome):
            return NotImplemented
        return self._triple < other._triple

    def __le__(self, other):
        if not isinstance(other, Outcome):
            return NotImplemented
        return self._triple <= other._triple

    def __gt__(self, other):
        if not isinstance(other, Outcome):
            return NotImplemented
        return self._triple > other._triple

    def __ge__(self, other):
        if not isinstance(other, Outcome):
            return NotImplemented
        return self._triple >= other._triple

    def __repr__(self):
        return f"Outcome({len(self.moved)} moved, {len(self.ends)} left)"

"""A statement while it is executed: which row holds which key at each moment."""


class Run:
    """What the rows of a table hold; at first each row holds its key."""

    def __init__(self, rows):
        """rows: the pairs (key, new key) of a table, ascending."""
        self._rows = rows
        self._wanted = dict(rows)
        self.start_again()

    def start_again(self):
        """Let each row hold its first key again."""
        self._keys = {row[0]: row[0] for row in self._rows}
        self._holders = {row[0]: row[0] for row in self._rows}

    def visit(self, row):
        """Move the row if it has to and can. At a conflict return the holder, otherwise None."""
        if row not in self._keys or self._keys[row] == self._wanted[row]:
            return None
        holder = self._holders.get(self._wanted[row])
        if holder is None:
            self.move(row)
        return holder

    def move(self, row):
        """Let the row hold its new key, which nobody holds."""
        del self._holders[self._keys[row]]
        self._keys[row] = self._wanted[row]
        self._holders[self._wanted[row]] = row

    def take_out(self, row):
        """Remove the row: it holds nothing from now on."""
        del self._holders[self._keys[row]]
        del self._keys[row]

    def held_by_rows(self):
        """The pairs (row, key that it holds) of the rows that are not removed, ascending."""
        return tuple(self._keys.items())

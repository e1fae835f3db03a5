"""Pieces: what shows with Replace that no fewer keys can be held at the end.

A piece is a tuple of rows: one row, or a ring of an odd number of rows. Its
keys are the keys and the new keys of its rows.
"""

from rowclash.checks import are_rows, is_ascending
from rowclash.waits import rings


def keys_held(piece):
    """How many keys of the piece are held at the end at least."""
    return (len(piece) + 1) // 2


def pieces_of(rows):
    """A list of pieces without a key in common, such that no fewer keys cover the rows than they need.

    rows: the pairs (key, new key) of a table, or some of them.
    """
    new_keys = dict(rows)
    pieces = []
    while rows:
        piece = next_piece(rows)
        taken = [key for row in piece for key in (row, new_keys[row])]
        rows = [row for row in rows if row[0] not in taken and row[1] not in taken]
        pieces.append(piece)
    return pieces


def next_piece(rows):
    """A piece that some smallest cover of the rows has no more keys of than it must."""
    for key, _ in rows:
        # If no other row wants its key, then its new key covers all that its key could, and more.
        if not any([new == key for row, new in rows if row != key]):
            return (key,)
    # Now as many keys are wanted as there are rows, each by one row: all rows are in rings.
    ring = first_ring(rows)
    return ring if len(ring) % 2 == 1 else ring[:1]


def first_ring(rows):
    """The ring of the first of these rows."""
    new_keys = dict(rows)
    ring = rows[0][:1]
    while new_keys[ring[-1]] != ring[0]:
        ring = ring + (new_keys[ring[-1]],)
    return ring


def fewest_covering(rows):
    """How many keys cover the rows at least."""
    return sum([keys_held(piece) for piece in pieces_of(rows)])


def are_pieces(table, thing):
    """Whether it is any ascending tuple of pieces without a key in common."""
    odd = [ring for ring in rings(table) if len(ring) % 2 == 1]
    if not isinstance(thing, tuple) or not all([is_piece(table, odd, part) for part in thing]):
        return False
    taken = [key for piece in thing for key in sorted(set(piece + tuple([table[row] for row in piece])))]
    return is_ascending(thing) and len(set(taken)) == len(taken)


def is_piece(table, odd, thing):
    """odd: the rings of an odd number of rows."""
    return are_rows(table, thing) and (len(thing) == 1 or thing in odd)

"""Parking: the rows that must be moved out of the way first, if no two rows compete."""

from rowclash.arguments import check_set_of_rows, check_table
from rowclash.checks import are_rows, is_ascending
from rowclash.passing import check_no_competing
from rowclash.waits import chains, rings, waiting_pairs


def enough(table, rows, *, always=False):
    """Whether some order of the other rows passes; with always=True, whether every one does."""
    check_table(table)
    check_set_of_rows(table, rows)
    check_no_competing(table)
    if always:
        return not waiting_pairs(table - rows)
    return not rings(table - rows)


def fewest_parked(table, *, always=False):
    """The first of the smallest sets that are enough."""
    check_table(table)
    check_no_competing(table)
    if always:
        return fewest_always(table)
    return tuple([ring[0] for ring in rings(table)])


def count_always(table):
    """How many rows must be parked at least, so that no row waits for another."""
    counts = [len(chain) // 2 for chain in chains(table)]
    return sum(counts + [(len(ring) + 1) // 2 for ring in rings(table)])


def fewest_always(table):
    """The first of the smallest sets that are enough always."""
    most = count_always(table)
    parked = ()
    for row, _ in table.rows:
        # A row is taken if some smallest set has it beside those that are taken already.
        more = parked + (row,)
        if len(more) + count_always(table - more) == most:
            parked = more
    return parked


def needs(table, *, always=False):
    """The ascending tuple of pieces, without a row in common, that shows that no smaller set is enough."""
    check_table(table)
    check_no_competing(table)
    if always:
        return needs_always(table)
    return rings(table)


def needs_always(table):
    """Pairs of rows from the chains and the even rings, and the odd rings."""
    found = rings(table)
    pieces = [ring for ring in found if len(ring) % 2 == 1]
    for rows in chains(table) + [ring for ring in found if len(ring) % 2 == 0]:
        pieces.extend(pairs_along(rows))
    return tuple(sorted(pieces))


def pairs_along(rows):
    """The first two rows, the next two, and so on; without the last row if their number is odd."""
    return [rows[at:at + 2] for at in range(0, len(rows) - 1, 2)]


def shows_needs(table, thing, *, always=False):
    """Whether it is any such tuple of pieces."""
    check_table(table)
    check_no_competing(table)
    pieces = possible_pieces(table, always)
    if not isinstance(thing, tuple) or not all([are_rows(table, part) and part in pieces for part in thing]):
        return False
    rows = [row for part in thing for row in part]
    if not is_ascending(thing) or len(set(rows)) != len(rows):
        return False
    return sum([rows_needed(part, always) for part in thing]) == len(fewest_parked(table, always=always))


def possible_pieces(table, always):
    """A list of all pieces that there are."""
    if always:
        return waiting_pairs(table) + [ring for ring in rings(table) if len(ring) % 2 == 1]
    return list(rings(table))


def rows_needed(piece, always):
    """How many of its rows must be parked: of a pair always one, of a ring one or, always, half of them."""
    return (len(piece) + 1) // 2 if always else 1

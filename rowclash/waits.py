"""Which rows wait for which: paths, rings, groups and trees."""

from rowclash.arguments import check_key, check_table


def walk(new_keys, row):
    """The path of a row and how it ends. new_keys: a dict from each key to the new key."""
    steps = [row]
    while True:
        new = new_keys[steps[-1]]
        if new not in new_keys:
            return tuple(steps), "free"
        if new == steps[-1]:
            return tuple(steps), "still"
        if new in steps:
            return tuple(steps), "ring"
        steps.append(new)


def path(table, key):
    """The pair (path, end): the row, the row that it waits for, and so on, and how this ends."""
    check_table(table)
    check_key(table, key)
    return walk(dict(table.rows), key)


def waiting_pairs(table):
    """The ascending list of the pairs (row, row that it waits for)."""
    return [(row, new) for row, new in table.rows if new in table and new != row]


def rings(table):
    """The ascending tuple of all rings."""
    check_table(table)
    new_keys = dict(table.rows)
    found = []
    for row in new_keys:
        steps, end = walk(new_keys, row)
        # The last test is false for a row that leads into a ring without being in it.
        if end == "ring" and row == min(steps) and row == new_keys[steps[-1]]:
            found.append(steps)
    return tuple(found)


def groups(table):
    """The ascending tuple of the sets of all rows that want one key, for each key that two or more want."""
    check_table(table)
    wanting = {}
    for row, new in table.rows:
        wanting.setdefault(new, []).append(row)
    return tuple(sorted([tuple(wanting[new]) for new in wanting if len(wanting[new]) > 1]))


def trees(table):
    """The ascending tuple of the pairs (free key, set of all rows whose path ends at a row that wants it)."""
    check_table(table)
    new_keys = dict(table.rows)
    leading = {}
    for row in new_keys:
        steps, end = walk(new_keys, row)
        if end == "free":
            leading.setdefault(new_keys[steps[-1]], []).append(row)
    return tuple([(key, tuple(leading[key])) for key in sorted(leading)])


def chains(table):
    """The paths of the rows that no row waits for.

    If no two rows compete, each row that is in no ring is in just one of them.
    """
    new_keys = dict(table.rows)
    waited_for = [pair[1] for pair in waiting_pairs(table)]
    return [walk(new_keys, row)[0] for row in new_keys if row not in waited_for]

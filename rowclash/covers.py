"""Which keys can be held at the end with Replace: the covers of a table.

A cover is a set of wanted keys, an ascending tuple, that has of each row its
key or its new key, and lacks a key of each closed ring.
"""

from rowclash.waits import path, rings, trees


def wanted_keys(table):
    """All keys that are the new key of some row, in ascending order."""
    return sorted(set([row[1] for row in table.rows]))


def closed_rings(table):
    """The rings whose keys no other row wants."""
    wanted = [row[1] for row in table.rows]
    return [ring for ring in rings(table) if sum([wanted.count(key) for key in ring]) == len(ring)]


def is_cover(table, keys):
    """Whether it is a cover. keys: an ascending tuple of keys."""
    wanted = wanted_keys(table)
    if not all([key in wanted for key in keys]):
        return False
    if not all([key in keys or new in keys for key, new in table.rows]):
        return False
    return not any([all([key in keys for key in ring]) for ring in closed_rings(table)])


def count_covers(table):
    """How many covers there are."""
    inside, outside = count_below(table)
    many = 1
    for key, _ in trees(table):
        many = many * (inside[key] + outside[key])
    for key, new in table.rows:
        if key == new:
            # The key of a still row is always held.
            many = many * inside[key]
    closed = closed_rings(table)
    for ring in rings(table):
        around = count_around([(inside[key], outside[key]) for key in ring])
        # No row leads into a closed ring, so all its keys are held in just one of these ways.
        many = many * (around - 1 if ring in closed else around)
    return many


def count_below(table):
    """In how many ways the rows that lead to a key can be covered, when rings are cut open.

    Two dicts from each key: to the number of ways that hold the key itself,
    and to that of those that do not.
    """
    wanted = wanted_keys(table)
    inside = {key: 1 for key in wanted}
    outside = {key: 1 for key in wanted}
    for key, _ in table.rows:
        # A key that nobody wants is never held.
        inside.setdefault(key, 0)
        outside[key] = 1
    ringed = [row for ring in rings(table) for row in ring]
    for row in farthest_first(table):
        new = table[row]
        if new != row and row not in ringed:
            inside[new] = inside[new] * (inside[row] + outside[row])
            outside[new] = outside[new] * inside[row]
    return inside, outside


def farthest_first(table):
    """The rows with the longest paths first, so that a row stands before the row that it waits for, but in rings."""
    return sorted([row for row, _ in table.rows], key=lambda row: len(path(table, row)[0]), reverse=True)


def count_around(ways):
    """The number of ways around a ring. ways: for each of its keys the pair of those with it and without it."""
    with_first, without_first = ways[0]
    many = sum(ways_along(with_first, 0, ways[1:]))
    # Without the first key the last one must be held.
    return many + ways_along(0, without_first, ways[1:])[0]


def ways_along(inside, outside, ways):
    """The pair of the numbers of ways along a line of keys, those with the last of them and those without it."""
    for with_next, without_next in ways:
        inside, outside = (inside + outside) * with_next, inside * without_next
    return inside, outside


def all_covers(table):
    """The ascending list of all covers."""
    wanted = wanted_keys(table)
    closed = closed_rings(table)
    # Each of these beginnings can be continued, so they are never more than the covers.
    begun = [()]
    for key in wanted:
        needed = needed_without(table, key)
        # Of the lesser keys it is known whether they are held; a greater one that is wanted can be.
        lacking = [keys for keys in begun if all([part in keys or part > key and part in wanted for part in needed])]
        begun = [keys + (key,) for keys in begun if not fills_ring(closed, keys, key)] + lacking
    return sorted(begun)


def needed_without(table, key):
    """The keys that must be held if this one is not; of a still row the key itself."""
    return [new if row == key else row for row, new in table.rows if row == key or new == key]


def fills_ring(closed, keys, key):
    """Whether a closed ring would have all its keys among these with this one."""
    return any([all([part in keys or part == key for part in ring]) for ring in closed])

"""The document's words, carried out plainly: to compare the program with, on tables that are small enough."""

from collections import Counter
from functools import lru_cache
from itertools import chain, combinations, permutations, product
from random import Random

WORDS = ("abort", "fail", "ignore", "replace")


def execute(rows, order, word):
    """Visit the rows one by one: (stop, ends), as an outcome has them."""
    wanted = dict(rows)
    holding = {row: row for row in wanted}
    for row in order:
        if row not in holding or holding[row] == wanted[row]:
            continue
        holders = [other for other in holding if other != row and holding[other] == wanted[row]]
        if not holders:
            holding[row] = wanted[row]
        elif word == "abort":
            return (row, holders[0]), tuple((row, row) for row in sorted(wanted))
        elif word == "fail":
            return (row, holders[0]), tuple(sorted(holding.items()))
        elif word == "replace":
            del holding[holders[0]]
            holding[row] = wanted[row]
    return (), tuple(sorted(holding.items()))


def keys_of(rows):
    return tuple(sorted(key for key, _ in rows))


def sets_of_rows(rows):
    """All sets of rows, the smaller ones first."""
    keys = keys_of(rows)
    return list(chain.from_iterable(combinations(keys, many) for many in range(len(keys) + 1)))


def moved_in(rows, ends):
    """The rows that hold their new key at the end, but not their first one."""
    wanted = dict(rows)
    return tuple(row for row, key in ends if key == wanted[row] != row)


def statement_of(keys, times, plus, scan, low, high):
    """The rows of a statement, and the order in which it visits them."""
    inside = [key for key in sorted(keys) if (low is None or key >= low) and (high is None or key <= high)]
    wanted = {key: times * key + plus if key in inside else key for key in sorted(keys)}
    places = {
        "up": lambda key: key, "down": lambda key: -key,
        "far": lambda key: (-abs(wanted[key] - key), key), "near": lambda key: (abs(wanted[key] - key), key),
    }
    outside = [key for key in sorted(keys) if key not in inside]
    return tuple(wanted.items()), tuple(sorted(inside, key=places[scan]) + outside)


def moving_with_replace(rows, order):
    """The rows that move with Replace, also if they are removed later."""
    wanted = dict(rows)
    holding = {row: row for row in wanted}
    moved = []
    for row in order:
        if row in holding and holding[row] != wanted[row]:
            for other in list(holding):
                if holding[other] == wanted[row]:
                    del holding[other]
            holding[row] = wanted[row]
            moved.append(row)
    return moved


class Results:
    """What all orders of a table come to."""

    def __init__(self, rows):
        self.orders = list(permutations(keys_of(rows)))
        # In how many orders just these rows move with Ignore, or each row does.
        self.ignored, self.ignoring = Counter(), Counter()
        # In how many orders just these rows are left with Replace, or each row is, or moves.
        self.left, self.leaving, self.moving = Counter(), Counter(), Counter()
        # The tuples of keys that are held at the end with Replace.
        self.held = set()
        # With Fail: the rows that have moved, and the row at which the statement stops.
        self.stopped = set()
        for order in self.orders:
            self.add(rows, order)

    def add(self, rows, order):
        moved = moved_in(rows, execute(rows, order, "ignore")[1])
        self.ignored[moved] += 1
        self.ignoring.update(moved)
        ends = execute(rows, order, "replace")[1]
        left = tuple(row for row, _ in ends)
        self.left[left] += 1
        self.leaving.update(left)
        self.held.add(tuple(sorted(key for _, key in ends)))
        self.moving.update(moving_with_replace(rows, order))
        stop, ends = execute(rows, order, "fail")
        if stop:
            self.stopped.add((moved_in(rows, ends), stop[0]))

    def fate(self, many):
        """Of something that happens in so many orders."""
        return "always" if many == len(self.orders) else "sometimes" if many else "never"


@lru_cache(maxsize=None)
def results(rows):
    return Results(rows)


def path_of(rows, key):
    """The path of a row and how it ends."""
    wanted = dict(rows)
    waits = {row: new for row, new in rows if new in wanted and new != row}
    steps = [key]
    while steps[-1] in waits and waits[steps[-1]] not in steps:
        steps.append(waits[steps[-1]])
    last = steps[-1]
    end = "free" if wanted[last] not in wanted else "still" if wanted[last] == last else "ring"
    return tuple(steps), end


def passing(rows):
    """All orders in which no conflict happens, in ascending order."""
    return [order for order in permutations(keys_of(rows)) if execute(rows, order, "abort")[0] == ()]


def competing_pairs(rows):
    return [(one, other) for one, other in combinations(keys_of(rows), 2) if dict(rows)[one] == dict(rows)[other]]


def all_rings(rows):
    """All rings, by trying all tuples of different rows."""
    wanted = dict(rows)
    found = []
    for many in range(2, len(rows) + 1):
        for ring in permutations(keys_of(rows), many):
            if ring[0] == min(ring) and all(wanted[x] == y for x, y in zip(ring, ring[1:] + ring[:1])):
                found.append(ring)
    return sorted(found)


def small_tables(many, step=1):
    """The rows of each step-th table of so many rows, which want each other's keys or one of two free ones."""
    for at, new_keys in enumerate(product([*range(1, many + 1), 0, 9], repeat=many)):
        if at % step == 0:
            yield tuple(zip(range(1, many + 1), new_keys))


def all_small_tables(most):
    for many in range(most + 1):
        yield from small_tables(many)


def tables_to_go_through():
    """The rows of the tables of which all orders are gone through."""
    return [*all_small_tables(4), *small_tables(5, 41), *ringed_tables()]


def ringed_tables():
    """Tables of five and six rows with rings, rows that lead into them, and rows that want keys of them."""
    for news in (
        (2, 3, 4, 5, 1), (2, 3, 4, 5, 6, 1), (2, 3, 1, 5, 4, 9), (2, 3, 1, 5, 6, 4), (2, 3, 4, 5, 1, 1),
        (2, 3, 4, 1, 1, 5), (2, 1, 4, 3, 6, 5), (2, 1, 1, 3, 4, 5), (2, 3, 1, 1, 2, 3), (2, 3, 1, 3, 9, 9),
        (2, 3, 1, 4, 4, 5), (2, 1, 2, 4, 4, 4), (2, 1, 4, 4, 3, 5), (2, 3, 4, 1, 2, 5),
    ):
        yield tuple(enumerate(news, start=1))


def large_tables(many, seed):
    """The rows of so many tables of 40 rows with conflicts of all kinds, always the same ones."""
    chance = Random(seed)
    for _ in range(many):
        keys = chance.sample(range(-50, 50), 40)
        yield tuple(sorted((key, chance.choice([*keys, *range(50, 60)])) for key in keys))


def from_parts(chains=(), rings=(), still=()):
    """Rows that wait for each other in chains, which end free, and in rings, and rows that are still."""
    rows = [(key, key) for key in still]
    for at, chain in enumerate(chains):
        rows += zip(chain, (*chain[1:], 1000 + at))
    for ring in rings:
        rows += zip(ring, (*ring[1:], ring[0]))
    return tuple(sorted(rows))

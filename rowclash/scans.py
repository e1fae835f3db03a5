"""Formulas that give keys new keys, and scans that visit the rows of such a statement."""

from rowclash.checks import are_different_keys, is_integer, is_key, is_small
from rowclash.errors import NotBound, NotFormula, NotInteger, NotKey, NotKeys, NotScan, TooLarge, TooMany
from rowclash.tables import MOST_ROWS, Table

SCANS = ("up", "down", "far", "near")
MOST_TIMES = 60
# Far away where there is no bound: it is greater than the sums of small integers
# that it is compared with.
FARTHEST = 2 ** 54
# Multiplied with each other, or with some left out, they give every power of two up to 2 ** 63.
STEPS = (2 ** 32, 2 ** 16, 2 ** 8, 2 ** 4, 2 ** 2, 2)


class Formula:
    """Gives the key k the new key times * k + plus."""

    def __init__(self, times=1, plus=0):
        if not is_integer(times) or not is_integer(plus):
            raise NotInteger("times and plus are integers")
        if not is_small(times) or not is_small(plus):
            raise TooLarge("times and plus have at most 15 digits")
        self._times = times
        self._plus = plus

    @property
    def times(self):
        """What a key is multiplied with."""
        return self._times

    @property
    def plus(self):
        """What is added to a key that has been multiplied."""
        return self._plus

    def __call__(self, key):
        """The new key of the key, whatever number of digits it has."""
        if not is_key(key):
            raise NotKey("a key is an integer with at most 30 digits")
        return new_key(self, key)

    def __add__(self, other):
        joined = as_formula(other)
        return Formula(self._times + joined.times, self._plus + joined.plus)

    def __radd__(self, other):
        return as_formula(other) + self

    def __sub__(self, other):
        joined = as_formula(other)
        return Formula(self._times - joined.times, self._plus - joined.plus)

    def __rsub__(self, other):
        return as_formula(other) - self

    def __mul__(self, other):
        if not is_small(other):
            raise NotFormula("a formula is multiplied with an integer with at most 15 digits")
        return Formula(self._times * other, self._plus * other)

    def __rmul__(self, other):
        return self * other

    def __neg__(self):
        return Formula(-self._times, -self._plus)

    def __pow__(self, other):
        if not is_integer(other) or not 0 <= other <= MOST_TIMES:
            raise NotInteger("a formula is applied from 0 to 60 times")
        times, plus = 1, 0
        for _ in range(other):
            times, plus = self._times * times, self._times * plus + self._plus
        return Formula(times, plus)

    def __eq__(self, other):
        return isinstance(other, Formula) and self._times == other._times and self._plus == other._plus

    def __repr__(self):
        return f"Formula({self._times}, {self._plus})"


def as_formula(thing):
    """What is joined with a formula, as a formula: a small integer counts as one with times 0."""
    if isinstance(thing, Formula):
        return thing
    if not is_small(thing):
        raise NotFormula("a formula is joined with a formula or an integer with at most 15 digits")
    return Formula(0, thing)


def new_key(formula, number):
    """The new key of a number, whatever number of digits both have."""
    return formula.times * number + formula.plus


def check_formula(formula):
    if not isinstance(formula, Formula):
        raise NotFormula("a formula is asked for")


def check_scan(scan):
    if scan not in SCANS:
        raise NotScan("the scans are up, down, far and near")


def check_bounds(low, high):
    for bound in (low, high):
        if bound is not None and not is_small(bound):
            raise NotBound("a bound is None or an integer with at most 15 digits")


def is_within(number, low, high):
    """Whether the number is from low to high; None is no bound."""
    return (low is None or low <= number) and (high is None or number <= high)


def changed_rows(keys, formula, low, high):
    """The pairs (key, new key) of a statement, in ascending order."""
    return [(key, new_key(formula, key) if is_within(key, low, high) else key) for key in sorted(keys)]


def visited_rows(rows, scan, low, high):
    """The order in which a statement visits these rows, which are in ascending order."""
    inside = [row for row in rows if is_within(row[0], low, high)]
    if scan == "down":
        inside = inside[::-1]
    if scan == "near":
        inside = sorted(inside, key=distance)
    if scan == "far":
        # Also with reverse=True rows with equal distances stay in ascending order.
        inside = sorted(inside, key=distance, reverse=True)
    outside = [row for row in rows if not is_within(row[0], low, high)]
    return tuple([row[0] for row in inside + outside])


def distance(row):
    """How far the new key of a row is from its key."""
    return abs(row[1] - row[0])


def statement(keys, formula, *, scan="up", low=None, high=None):
    """The pair (table, order) of the statement that gives the keys from low to high new keys."""
    if not are_different_keys(keys):
        raise NotKeys("keys is a tuple of different keys")
    check_formula(formula)
    check_scan(scan)
    check_bounds(low, high)
    if len(keys) > MOST_ROWS:
        raise TooMany(len(keys), MOST_ROWS)
    rows = changed_rows(keys, formula, low, high)
    if not all([is_key(row[1]) for row in rows]):
        raise TooLarge("a new key would have more than 30 digits")
    return Table(*rows), visited_rows(rows, scan, low, high)


def clash(formula, *, scan="up", low=None, high=None):
    """Two integers that meet a conflict as the keys of such a statement, or None if there are none."""
    check_formula(formula)
    check_scan(scan)
    check_bounds(low, high)
    if not is_safe(formula, scan, low, high):
        for key in trial_keys(formula, scan, low, high):
            if meets_conflict(key, formula, scan, low, high):
                return tuple(sorted((key, new_key(formula, key))))
    return None


def is_safe(formula, scan, low, high, far=FARTHEST):
    """Whether no row at a key from -far to far meets a conflict in such a statement, whatever keys there are."""
    first = -far if low is None or low < -far else low
    last = far if high is None or high > far else high
    if first > last:
        return True
    # Two rows meet a conflict if one of them wants the key of the other; rows that
    # want one key do so, too, but then also with the row at this key. Signs of
    # linear functions of the key of a row say whether it meets one with the row at
    # its new key, and the keys of those that meet none lie side by side: so if any
    # row meets one, then a row at one of the ends does.
    return not (
        meets_conflict(first, formula, scan, low, high) or meets_conflict(last, formula, scan, low, high)
    )


def meets_conflict(key, formula, scan, low, high):
    """Whether the row at a key from low to high meets a conflict with a row at its new key."""
    new = new_key(formula, key)
    if new == key:
        return False
    # The other row is still if it is outside of the bounds or times is 0, and with
    # times -1 it wants the key of this one. Otherwise its new key is neither of the
    # two keys, so that it moves out of the way if it is visited first.
    if formula.times in (0, -1) or not is_within(new, low, high):
        return True
    return not is_visited_before(new, key, formula, scan)


def is_visited_before(new, key, formula, scan):
    """Whether the row at the new key of a row is visited before it; both are within the bounds."""
    if scan == "down":
        return new > key
    # The row at the new key is abs(times) times as far from its own new key as the
    # other row is, and times is not 0. Equal distances are visited in ascending order.
    if scan == "up" or abs(formula.times) == 1:
        return new < key
    return scan == "far"


def trial_keys(formula, scan, low, high):
    """Keys from low to high, those near 0 first, so that some row at one of them meets a conflict if any row does."""
    safe = 1
    for step in STEPS:
        if is_safe(formula, scan, low, high, safe * step):
            safe = safe * step
    # Twice as far from 0 some row meets a conflict, and so one at an end of the keys up to there.
    numbers = [0, 1, -1, 2 * safe, -2 * safe] + [bound for bound in (low, high) if bound is not None]
    return sorted([number for number in numbers if is_within(number, low, high)], key=abs)


def safe_scans(formula, *, low=None, high=None):
    """The scans with which such a statement never meets a conflict, whatever the keys are."""
    check_formula(formula)
    check_bounds(low, high)
    return tuple([scan for scan in SCANS if is_safe(formula, scan, low, high)])

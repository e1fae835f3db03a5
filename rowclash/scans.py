"""Formulas that give keys new keys, and scans that visit the rows of such a statement."""

from rowclash.checks import are_different_keys, is_integer, is_key, is_small
from rowclash.errors import NotBound, NotFormula, NotInteger, NotKey, NotKeys, NotScan, TooLarge, TooMany
from rowclash.runs import Run
from rowclash.tables import MOST_ROWS, Table

SCANS = ("up", "down", "far", "near")
MOST_TIMES = 60
# Far away where there is no bound: it is greater than the sums of small integers
# that it is compared with.
FARTHEST = 2 ** 54


class Formula:
    """Gives the key k the new key times * k + plus."""

    def __init__(self, times=1, plus=0):
        if not is_integer(times) or not is_integer(plus):
            raise NotInteger("times and plus are integers")
        if not is_small(times) or not is_small(plus):
            raise TooLarge("times and plus have at most 15 digits")
        self._times = times
        self._plus = plus

    @property
    def times(self):
        """What a key is multiplied with."""
        return self._times

    @property
    def plus(self):
        """What is added to a key that has been multiplied."""
        return self._plus

    def __call__(self, key):
        """The new key of the key, whatever number of digits it has."""
        if not is_key(key):
            raise NotKey("a key is an integer with at most 30 digits")
        return new_key(self, key)

    def __add__(self, other):
        joined = as_formula(other)
        return Formula(self._times + joined.times, self._plus + joined.plus)

    def __radd__(self, other):
        return as_formula(other) + self

    def __sub__(self, other):
        joined = as_formula(other)
        return Formula(self._times - joined.times, self._plus - joined.plus)

    def __rsub__(self, other):
        return as_formula(other) - self

    def __mul__(self, other):
        if not is_small(other):
            raise NotFormula("a formula is multiplied with an integer with at most 15 digits")
        return Formula(self._times * other, self._plus * other)

    def __rmul__(self, other):
        return self * other

    def __neg__(self):
        return Formula(-self._times, -self._plus)

    def __pow__(self, other):
        if not is_integer(other) or not 0 <= other <= MOST_TIMES:
            raise NotInteger("a formula is applied from 0 to 60 times")
        times, plus = 1, 0
        for _ in range(other):
            times, plus = self._times * times, self._times * plus + self._plus
        return Formula(times, plus)

    def __eq__(self, other):
        return isinstance(other, Formula) and self._times == other._times and self._plus == other._plus

    def __repr__(self):
        return f"Formula({self._times}, {self._plus})"


def as_formula(thing):
    """What is joined with a formula, as a formula: a small integer counts as one with times 0."""
    if isinstance(thing, Formula):
        return thing
    if not is_small(thing):
        raise NotFormula("a formula is joined with a formula or an integer with at most 15 digits")
    return Formula(0, thing)


def new_key(formula, number):
    """The new key of a number, whatever number of digits both have."""
    return formula.times * number + formula.plus


def check_formula(formula):
    if not isinstance(formula, Formula):
        raise NotFormula("a formula is asked for")


def check_scan(scan):
    if scan not in SCANS:
        raise NotScan("the scans are up, down, far and near")


def check_bounds(low, high):
    for bound in (low, high):
        if bound is not None and not is_small(bound):
            raise NotBound("a bound is None or an integer with at most 15 digits")


def is_within(number, low, high):
    """Whether the number is from low to high; None is no bound."""
    return (low is None or low <= number) and (high is None or number <= high)


def changed_rows(keys, formula, low, high):
    """The pairs (key, new key) of a statement, in ascending order."""
    return [(key, new_key(formula, key) if is_within(key, low, high) else key) for key in sorted(keys)]


def visited_rows(rows, scan, low, high):
    """The order in which a statement visits these rows, which are in ascending order."""
    inside = [row for row in rows if is_within(row[0], low, high)]
    if scan == "down":
        inside = inside[::-1]
    if scan == "near":
        inside = sorted(inside, key=distance)
    if scan == "far":
        # Also with reverse=True rows with equal distances stay in ascending order.
        inside = sorted(inside, key=distance, reverse=True)
    outside = [row for row in rows if not is_within(row[0], low, high)]
    return tuple([row[0] for row in inside + outside])


def distance(row):
    """How far the new key of a row is from its key."""
    return abs(row[1] - row[0])


def statement(keys, formula, *, scan="up", low=None, high=None):
    """The pair (table, order) of the statement that gives the keys from low to high new keys."""
    if not are_different_keys(keys):
        raise NotKeys("keys is a tuple of different keys")
    check_formula(formula)
    check_scan(scan)
    check_bounds(low, high)
    if len(keys) > MOST_ROWS:
        raise TooMany(len(keys), MOST_ROWS)
    rows = changed_rows(keys, formula, low, high)
    if not all([is_key(row[1]) for row in rows]):
        raise TooLarge("a new key would have more than 30 digits")
    return Table(*rows), visited_rows(rows, scan, low, high)


def clash(formula, *, scan="up", low=None, high=None):
    """Two integers that meet a conflict as the keys of such a statement, or None if there are none."""
    check_formula(formula)
    check_scan(scan)
    check_bounds(low, high)
    # Two rows meet a conflict if one of them wants the key of the other; rows that
    # want one key do so, too, but then also with the row at this key. Signs of
    # linear functions of the key of a row say whether it meets one with the row at
    # its new key: so if any row does, then a row at one of the ends.
    for key in trial_keys(low, high):
        pair = tuple(sorted((key, new_key(formula, key))))
        if pair[0] != pair[1] and meets_conflict(pair, formula, scan, low, high):
            return pair
    return None


def trial_keys(low, high):
    """Keys from low to high, those near 0 first: also both ends, and keys far away where there is no bound."""
    powers = [1]
    while powers[-1] < FARTHEST:
        powers.append(powers[-1] * 2)
    numbers = [0] + powers + [-power for power in powers] + [bound for bound in (low, high) if bound is not None]
    return sorted([number for number in numbers if is_within(number, low, high)], key=abs)


def meets_conflict(keys, formula, scan, low, high):
    """Whether the statement of these keys meets a conflict."""
    rows = changed_rows(keys, formula, low, high)
    run = Run(rows)
    for key in visited_rows(rows, scan, low, high):
        if run.visit(key) is not None:
            return True
    return False


def safe_scans(formula, *, low=None, high=None):
    """The scans with which such a statement never meets a conflict, whatever the keys are."""
    return tuple([scan for scan in SCANS if clash(formula, scan=scan, low=low, high=high) is None])

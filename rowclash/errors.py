"""The exceptions of rowclash: RowError, and one class for each kind of failure."""


class RowError(ValueError):
    """What all exceptions of rowclash are."""


class NotRow(RowError):
    """Something is no pair of keys, or nothing whose rows can be added to a table."""


class NotTable(RowError):
    """Something is no table."""


class NotKey(RowError):
    """Something is no integer with at most 30 digits."""


class NotKeys(RowError):
    """Something is no tuple of keys as it is asked for."""


class NotRows(RowError):
    """Something is no set of rows of the table."""


class NotOrder(RowError):
    """Something is no order of the table."""


class NotRule(RowError):
    """Something is no rule, or no word of a rule."""


class NotInteger(RowError):
    """Something is no integer, or none in the bounds that are asked for."""


class NotScan(RowError):
    """Something is no word of a scan."""


class NotBound(RowError):
    """Something is neither None nor a small integer."""


class NotFormula(RowError):
    """Something is no formula, or nothing that can be joined with one."""


class NotDeed(RowError):
    """Something is no deed of a session."""


class NotText(RowError):
    """Something is no text of a table."""


class NotBytes(RowError):
    """Something is not the bytes of a key."""


class NotLine(RowError):
    """Something is no line for a desk."""


class Missing(RowError):
    """Something is not the key of a row, or is not stored."""


class Impossible(RowError):
    """No order leads there."""


class TooLarge(RowError):
    """A number would have too many digits."""


class NothingDone(RowError):
    """There is no deed that can be undone."""


class Twice(RowError):
    """Two rows have one key."""

    def __init__(self, key):
        super().__init__(f"two rows have the key {key}")
        self.key = key


class Held(RowError):
    """A key is held already."""

    def __init__(self, key):
        super().__init__(f"the key {key} is held already")
        self.key = key


class TooMany(RowError):
    """There are more of something than there may be."""

    def __init__(self, many, most):
        super().__init__(f"{many} are too many, {most} is the most")
        self.many = many
        self.most = most


class Competing(RowError):
    """Two rows have one new key."""

    def __init__(self, pair):
        super().__init__(f"these rows compete: {pair}")
        self.pair = pair


class Ringed(RowError):
    """Some rows wait for each other in a ring."""

    def __init__(self, ring):
        super().__init__(f"these rows wait for each other: {ring}")
        self.ring = ring


class Collision(RowError):
    """A statement stopped at a row, because another row held its new key."""

    def __init__(self, row, holder):
        super().__init__(f"row {row} collides with row {holder}")
        self.row = row
        self.holder = holder

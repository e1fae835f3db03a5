"""Values of any kind, and tables, for the tests."""

from rowclash.errors import NotRow, RowError
from rowclash.outcomes import Outcome
from rowclash.rules import Abort, Replace
from rowclash.scans import Formula
from rowclash.sessions import Session
from rowclash.tables import Table

MOST = 10 ** 30 - 1

NO_INTEGERS = (
    True, False, None, "", "1", "a\nb", b"", b"1", (), (1,), (1, 2), [], [1], {}, {1: 2}, [[1], (2,)],
    Table(), Table((1, 2)), Outcome((), (), ()), Abort(), RowError("1"), NotRow(),
    Session(), Session(1),
)
NO_KEYS = NO_INTEGERS + (MOST + 1, -MOST - 1, 10 ** 59, -10 ** 59)
NO_PAIRS = (
    1, True, None, "12", b"12", [1, 2], {1: 2, 2: 3}, (), (1,), (1, 2, 3), ((1, 2),), [(1, 2)],
    Table((1, 2)), Outcome((), (), ()),
) + tuple((1, thing) for thing in NO_KEYS) + tuple((thing, 1) for thing in NO_KEYS)
NO_TABLES = tuple(thing for thing in NO_KEYS if not isinstance(thing, Table)) + (
    0, 1, "Table()", "1>2", ((1, 2),), ((1, 2), (2, 3)), [(1, 2)], {1: 2, 2: 3}, Outcome(((1, 2),), (), ((1, 2),)),
    Formula(),
)
# What is no set of rows, and no row, of a table with the rows 1 and 2.
NO_SETS_OF_ROWS = tuple(thing for thing in NO_INTEGERS if thing not in ((), (1,), (1, 2))) + (
    1, [1], [1, 2], (2, 1), (1, 1), (1, 1, 2), (9,), (5,), {1: 2}, "1", ((1, 2),), (1, 2, 9), (1, 2, 3), (0, 1),
) + tuple((1, thing) for thing in NO_KEYS) + tuple((thing,) for thing in NO_KEYS)
NO_ROWS = NO_KEYS + (0, 3, 9, -1, MOST, (1,), [2], "2", 12)
# Values of all kinds, for what says a bool of any value.
ANYTHING = NO_KEYS + NO_PAIRS + NO_TABLES + (
    "abort", "order", "ring", "compete", "x" * 3000, b"\x00" * 1000, Replace(), [[[[[[[[1]]]]]]]],
    ((((((((1,),),),),),),),), {"order": (1, 2)}, {(1, 2): [Table((1, 2))]}, (Table((1, 2)), Abort()),
    tuple(range(1999)), [0] * 1999, (("order", None),), ("order",) * 2, ((), ()), ((), (), ()),
    Formula(), Formula(7, 8), Session(1, 2, rule=Replace()), (Formula(),), [Session(1)],
)


def line_of_rows(many, start=1):
    """So many pairs, the first with the key `start`, each waiting for the next one."""
    return tuple((key, key + 1) for key in range(start, start + many))

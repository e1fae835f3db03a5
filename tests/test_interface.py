"""The names and arguments that the document's interface lists, each in its file."""

import importlib
import inspect
import unittest

# file: class: its methods, operators and properties
CLASSES = {
    "tables": {
        "Table": (
            "rows", "shifted", "__init__", "__getitem__", "__setitem__", "__contains__", "__len__", "__eq__",
            "__repr__", "__add__", "__iadd__", "__sub__",
        ),
    },
    "outcomes": {
        "Outcome": (
            "rows", "stop", "ends", "moved", "left", "held", "__getitem__", "__len__", "__eq__", "__lt__",
            "__le__", "__gt__", "__ge__", "__repr__",
        ),
    },
    "rules": {
        "Rule": ("named", "__call__", "__eq__", "__repr__"),
        "Stops": (), "Continues": (), "Undoes": (), "Leaves": (), "Removes": (),
        "Abort": ("WORD",), "Fail": ("WORD",), "Ignore": ("WORD",), "Replace": ("WORD",),
    },
    "scans": {
        "Formula": (
            "times", "plus", "__init__", "__call__", "__add__", "__radd__", "__sub__", "__rsub__", "__mul__",
            "__rmul__", "__neg__", "__pow__", "__eq__", "__repr__",
        ),
    },
    "sessions": {
        "Session": (
            "stored", "rule", "obey", "put", "drop", "change", "undo", "attempt", "twin", "__init__", "__len__",
            "__contains__", "__eq__", "__repr__",
        ),
    },
    "desk": {"Desk": ("__init__", "say")},
}
PROPERTIES = {
    "Table": ("rows",), "Outcome": ("rows", "stop", "ends", "moved", "left", "held"),
    "Formula": ("times", "plus"), "Session": ("stored", "rule"),
}
# file: function: its arguments
FUNCTIONS = {
    "waits": {"path": "(table, key)", "rings": "(table)", "groups": "(table)", "trees": "(table)"},
    "passing": {
        "verdict": "(table)", "shows_verdict": "(table, thing)", "passing_orders": "(table)",
        "each_passing": "(table)", "fits_at_end": "(table)", "stages": "(table)",
    },
    "parking": {
        "enough": "(table, rows, *, always=False)", "fewest_parked": "(table, *, always=False)",
        "needs": "(table, *, always=False)", "shows_needs": "(table, thing, *, always=False)",
    },
    "ignoring": {
        "is_possible": "(table, rows)", "order_moving": "(table, rows)", "count_possible": "(table)",
        "each_possible": "(table)", "most_moved": "(table)", "fewest_moved": "(table)", "move_fate": "(table, key)",
    },
    "replacing": {
        "can_be_left": "(table, rows)", "order_leaving": "(table, rows)", "left_fate": "(table, key)",
        "can_be_held": "(table, keys)", "count_held": "(table)", "each_held": "(table)", "most_left": "(table)",
        "fewest_left": "(table)", "shows_fewest": "(table, thing)",
    },
    "counting": {
        "ignoring_moves": "(table, key)", "ignoring_exactly": "(table, rows)",
        "replacing_moves": "(table, key)", "replacing_leaves": "(table, key)",
    },
    "failing": {
        "can_stop": "(table, rows, key)", "order_stopping": "(table, rows, key)", "stops": "(table)",
    },
    "scans": {
        "statement": "(keys, formula, *, scan='up', low=None, high=None)",
        "clash": "(formula, *, scan='up', low=None, high=None)", "safe_scans": "(formula, *, low=None, high=None)",
    },
    "texts": {
        "table_text": "(table)", "read_table": "(text)", "key_bytes": "(key)", "bytes_key": "(data)",
    },
}


class Interface(unittest.TestCase):
    def test_classes_are_defined_in_their_files_with_methods_of_their_own(self):
        for file, classes in CLASSES.items():
            module = importlib.import_module(f"rowclash.{file}")
            for name, parts in classes.items():
                kind = getattr(module, name)
                self.assertEqual(kind.__module__, f"rowclash.{file}")
                for part in parts:
                    with self.subTest(name=name, part=part):
                        self.assertIn(part, vars(kind))
                for part in PROPERTIES.get(name, ()):
                    self.assertIsInstance(vars(kind)[part], property)

    def test_functions_are_defined_in_their_files_with_their_arguments(self):
        for file, functions in FUNCTIONS.items():
            module = importlib.import_module(f"rowclash.{file}")
            for name, arguments in functions.items():
                with self.subTest(name=name):
                    function = getattr(module, name)
                    self.assertEqual(function.__module__, f"rowclash.{file}")
                    self.assertEqual(str(inspect.signature(function)), arguments)

    def test_arguments_of_methods(self):
        tables = importlib.import_module("rowclash.tables")
        rules = importlib.import_module("rowclash.rules")
        self.assertEqual(str(inspect.signature(rules.Abort())), "(table, order)")
        self.assertEqual(str(inspect.signature(rules.Rule.named)), "(word)")
        self.assertIsInstance(vars(rules.Rule)["named"], staticmethod)
        self.assertEqual(str(inspect.signature(tables.Table)), "(*rows)")
        self.assertEqual(str(inspect.signature(tables.Table.shifted)), "(keys, by)")
        scans = importlib.import_module("rowclash.scans")
        self.assertEqual(str(inspect.signature(scans.Formula)), "(times=1, plus=0)")
        self.assertEqual(str(inspect.signature(scans.Formula())), "(key)")
        session = importlib.import_module("rowclash.sessions").Session
        self.assertEqual(str(inspect.signature(session)), "(*keys, rule=None)")
        for name, arguments in (
            ("obey", "(rule)"), ("put", "(*keys)"), ("drop", "(*keys)"), ("undo", "()"), ("attempt", "(*deeds)"),
            ("change", "(formula, *, scan='up', low=None, high=None)"), ("twin", "()"),
        ):
            self.assertEqual(str(inspect.signature(getattr(session(), name))), arguments)
        desk = importlib.import_module("rowclash.desk").Desk
        self.assertEqual((str(inspect.signature(desk)), str(inspect.signature(desk().say))), ("()", "(line)"))

    def test_objects_are_not_iterated_over(self):
        tables = importlib.import_module("rowclash.tables")
        outcomes = importlib.import_module("rowclash.outcomes")
        for thing in (tables.Table((1, 2)), outcomes.Outcome(((1, 2),), (), ((1, 2),))):
            with self.assertRaises(TypeError):
                iter(thing)


if __name__ == "__main__":
    unittest.main()

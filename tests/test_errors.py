import unittest

from rowclash import errors

PLAIN = (
    "NotRow", "NotTable", "NotKey", "NotKeys", "NotRows", "NotOrder", "NotRule", "NotInteger", "NotScan",
    "NotBound", "NotFormula", "NotDeed", "NotText", "NotBytes", "NotLine", "Missing", "Impossible",
    "TooLarge", "NothingDone",
)
WITH_FIELDS = {
    "Twice": {"key": 3},
    "Held": {"key": -10 ** 30 + 1},
    "TooMany": {"many": 41, "most": 40},
    "Competing": {"pair": (1, 2)},
    "Ringed": {"ring": (1, 2, 3)},
    "Collision": {"row": 2, "holder": 1},
}


class Errors(unittest.TestCase):
    def test_row_error_is_a_value_error(self):
        self.assertEqual(errors.RowError.__bases__, (ValueError,))
        self.assertEqual(str(errors.RowError("why")), "why")
        self.assertIsInstance(errors.RowError(), ValueError)

    def test_each_is_derived_directly_from_row_error(self):
        for name in PLAIN + tuple(WITH_FIELDS):
            with self.subTest(name=name):
                kind = getattr(errors, name)
                self.assertEqual(kind.__bases__, (errors.RowError,))
                self.assertEqual(kind.__name__, name)
                self.assertEqual(kind.__module__, "rowclash.errors")

    def test_plain_ones_are_made_with_a_message_or_none(self):
        for name in PLAIN:
            with self.subTest(name=name):
                kind = getattr(errors, name)
                self.assertEqual(str(kind("why")), "why")
                self.assertEqual(str(kind()), "")
                with self.assertRaises(ValueError):
                    raise kind()

    def test_fields_by_position(self):
        for name, fields in WITH_FIELDS.items():
            with self.subTest(name=name):
                error = getattr(errors, name)(*fields.values())
                self.assertEqual(vars(error), fields)
                self.assertIsInstance(str(error), str)

    def test_fields_by_name(self):
        for name, fields in WITH_FIELDS.items():
            with self.subTest(name=name):
                error = getattr(errors, name)(**fields)
                self.assertEqual(vars(error), fields)

    def test_fields_must_all_be_passed(self):
        for name in WITH_FIELDS:
            with self.subTest(name=name), self.assertRaises(TypeError):
                getattr(errors, name)()

    def test_no_other_exceptions(self):
        names = {name for name, thing in vars(errors).items() if isinstance(thing, type)}
        self.assertEqual(names, {"RowError", *PLAIN, *WITH_FIELDS})


if __name__ == "__main__":
    unittest.main()

import unittest

from zipslack import errors

TABLE = (
    ("InvalidCloth", ValueError, ("part", "position")),
    ("InvalidState", ValueError, ()),
    ("IllegalMove", RuntimeError, ("position",)),
    ("UnknownZip", IndexError, ("number",)),
    ("UnknownRow", IndexError, ("row",)),
    ("NotClamped", LookupError, ("foot",)),
    ("UnreachableCount", ArithmeticError, ("count",)),
    ("LimitExceeded", OverflowError, ("limit",)),
    ("InvalidAction", TypeError, ()),
    ("NothingToUndo", LookupError, ()),
    ("UnknownName", KeyError, ("name",)),
    ("ClothMismatch", ValueError, ("name",)),
    ("Busy", RuntimeError, ()),
    ("ParseError", ValueError, ("line",)),
    ("InvalidCommand", ValueError, ()),
)


class ErrorsTest(unittest.TestCase):
    def test_the_module_has_exactly_these_classes(self):
        found = [name for name, value in vars(errors).items() if isinstance(value, type)]
        self.assertEqual(sorted(found), sorted(name for name, base, fields in TABLE))

    def test_each_class_is_defined_here_directly_from_its_base(self):
        for name, base, fields in TABLE:
            with self.subTest(name):
                error = getattr(errors, name)
                self.assertEqual(error.__bases__, (base,))
                self.assertEqual((error.__module__, error.__name__), ("zipslack.errors", name))

    def test_no_class_derives_from_another_one(self):
        for name, base, fields in TABLE:
            for other, other_base, other_fields in TABLE:
                if name != other:
                    with self.subTest((name, other)):
                        self.assertFalse(issubclass(getattr(errors, name), getattr(errors, other)))

    def test_fields_by_position_in_their_order(self):
        for name, base, fields in TABLE:
            with self.subTest(name):
                values = [object() for field in fields]
                error = getattr(errors, name)(*values)
                self.assertEqual([getattr(error, field) for field in fields], values)
                self.assertEqual(sorted(vars(error)), sorted(fields))

    def test_fields_by_name(self):
        for name, base, fields in TABLE:
            with self.subTest(name):
                values = {field: object() for field in fields}
                error = getattr(errors, name)(**values)
                self.assertEqual(vars(error), values)

    def test_fields_are_required(self):
        for name, base, fields in TABLE:
            if fields:
                with self.subTest(name), self.assertRaises(TypeError):
                    getattr(errors, name)(*fields[1:])

    def test_each_can_be_raised_and_caught_as_its_base(self):
        for name, base, fields in TABLE:
            with self.subTest(name), self.assertRaises(base):
                raise getattr(errors, name)(*fields)

    def test_each_has_a_text(self):
        for name, base, fields in TABLE:
            with self.subTest(name):
                self.assertIsInstance(str(getattr(errors, name)(*fields)), str)


if __name__ == "__main__":
    unittest.main()

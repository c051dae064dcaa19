import unittest

from checks import FIELDS, any_values
from drawnturns import errors


class TestErrors(unittest.TestCase):
    def test_all_stand_directly_under_turn_error(self):
        self.assertEqual(errors.TurnError.__bases__, (ValueError,))
        for name in FIELDS:
            with self.subTest(name=name):
                self.assertEqual(getattr(errors, name).__bases__, (errors.TurnError,))

    def test_none_stands_under_another_one(self):
        for name in FIELDS:
            for other in FIELDS:
                if name != other:
                    self.assertFalse(issubclass(getattr(errors, name), getattr(errors, other)), (name, other))

    def test_they_are_called_as_told(self):
        for name in ("TurnError", *FIELDS):
            self.assertEqual(getattr(errors, name).__name__, name)

    def test_fields_are_kept_as_passed_by_place(self):
        for name, fields in FIELDS.items():
            for field in fields:
                for value in any_values():
                    with self.subTest(name=name, value=repr(value)[:60]):
                        error = getattr(errors, name)(value)
                        self.assertIs(getattr(error, field), value)

    def test_fields_are_kept_as_passed_by_name(self):
        for name, fields in FIELDS.items():
            for field in fields:
                for value in any_values():
                    with self.subTest(name=name, value=repr(value)[:60]):
                        error = getattr(errors, name)(**{field: value})
                        self.assertIs(getattr(error, field), value)

    def test_each_object_keeps_its_own_field(self):
        one, other = errors.BadText(3), errors.BadText(4)
        self.assertEqual((one.place, other.place), (3, 4))
        one, other = errors.BadScore(("many", ())), errors.BadScore(None)
        self.assertEqual((one.error, other.error), (("many", ()), None))

    def test_those_without_fields_are_made_of_nothing(self):
        for name, fields in FIELDS.items():
            if not fields:
                self.assertIsInstance(getattr(errors, name)(), errors.TurnError)

    def test_they_are_raised_and_caught(self):
        for name, fields in FIELDS.items():
            kind = getattr(errors, name)
            for caught in (kind, errors.TurnError, ValueError):
                with self.subTest(name=name, caught=caught):
                    with self.assertRaises(caught):
                        raise kind(*[7 for _ in fields])

    def test_what_they_say_is_some_text(self):
        for name, fields in FIELDS.items():
            self.assertIsInstance(str(getattr(errors, name)(*[("cell", ()) for _ in fields])), str)


if __name__ == "__main__":
    unittest.main()

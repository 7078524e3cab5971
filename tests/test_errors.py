"""The errors: their fields and bases (the interface)."""

import unittest

from savelines import errors

FIELDS = {
    "BadEvent": ("event",),
    "TwoStates": ("process",),
    "NotTogether": ("one", "other"),
    "NoRule": ("value",),
    "TooManySteps": ("limit",),
    "Full": (),
    "NothingToUndo": (),
    "BadStep": ("index",),
    "Refused": ("index",),
    "BadProcesses": ("value",),
    "BadText": ("index",),
    "BadHistory": ("error",),
    "NoProcess": ("value",),
    "NoMessage": ("value",),
}
LOOKUP = ("NoProcess", "NoMessage")


def passed_values():
    """Return values of many kinds, each an object that nothing else holds."""
    return [
        None, True, False, 0, -7, 10 ** 29, "", "none", "a\nb", (0, 1), ((0, 1), (True,)),
        ("unsent", 1, 0), [], [1, [2]], {}, {"a": (1, [2])}, ValueError("x"),
    ]


class ErrorsTest(unittest.TestCase):
    def test_defined_in_errors(self):
        for name in ("LineError", *FIELDS):
            self.assertEqual(getattr(errors, name).__module__, "savelines.errors")
            self.assertEqual(getattr(errors, name).__name__, name)

    def test_fields_hold_the_very_values(self):
        for name, fields in FIELDS.items():
            for value in passed_values():
                values = [value, [value]][:len(fields)]
                error = getattr(errors, name)(*values)
                for field, passed in zip(fields, values):
                    self.assertIs(getattr(error, field), passed, (name, field))

    def test_no_other_fields(self):
        for name, fields in FIELDS.items():
            error = getattr(errors, name)(*[object() for _ in fields])
            self.assertEqual(sorted(vars(error)), sorted(fields), name)

    def test_order_of_two_fields(self):
        error = errors.NotTogether((0, 1), (1, 2))
        self.assertEqual((error.one, error.other), ((0, 1), (1, 2)))

    def test_number_of_fields(self):
        for name, fields in FIELDS.items():
            if fields:
                with self.assertRaises(TypeError, msg=name):
                    getattr(errors, name)()
                with self.assertRaises(TypeError, msg=name):
                    getattr(errors, name)(*[1 for _ in fields], 1)

    def test_passed_values_are_not_changed(self):
        value = {"a": [1, (2,)]}
        errors.BadEvent(value)
        errors.BadProcesses(value)
        self.assertEqual(value, {"a": [1, (2,)]})

    def test_objects_do_not_share_fields(self):
        first, second = errors.BadText(1), errors.BadText(2)
        self.assertEqual((first.index, second.index), (1, 2))

    def test_line_error(self):
        self.assertEqual(errors.LineError.__bases__, (ValueError,))

    def test_bases(self):
        for name in FIELDS:
            kind = getattr(errors, name)
            if name in LOOKUP:
                self.assertTrue(issubclass(kind, LookupError), name)
                self.assertFalse(issubclass(kind, ValueError), name)
                self.assertFalse(issubclass(kind, errors.LineError), name)
                self.assertFalse(issubclass(kind, (KeyError, IndexError)), name)
            else:
                self.assertTrue(issubclass(kind, errors.LineError), name)
                self.assertFalse(issubclass(kind, LookupError), name)

    def test_none_derives_from_another_one(self):
        for name in FIELDS:
            for other in FIELDS:
                if name != other:
                    derived = issubclass(getattr(errors, name), getattr(errors, other))
                    self.assertFalse(derived, (name, other))

    def test_raised_and_caught(self):
        with self.assertRaises(ValueError) as caught:
            raise errors.BadHistory(("circle",))
        self.assertEqual(caught.exception.error, ("circle",))
        with self.assertRaises(LookupError) as caught:
            raise errors.NoMessage([3])
        self.assertEqual(caught.exception.value, [3])


if __name__ == "__main__":
    unittest.main()

"""The names and arguments of the interface that have landed."""

import inspect
import unittest

from savelines import errors, histories

ARGUMENTS = {
    histories: {
        "is_history": ["value"],
        "history_error": ["value"],
        "state_numbers": ["history"],
        "place_of": ["history", "state"],
        "sent_at": ["history", "message"],
        "received_at": ["history", "message"],
        "some_order": ["history"],
        "with_event": ["history", "process", "event"],
    },
    errors: {
        "BadEvent": ["event"],
        "TwoStates": ["process"],
        "NotTogether": ["one", "other"],
        "NoRule": ["value"],
        "TooManySteps": ["limit"],
        "BadStep": ["index"],
        "Refused": ["index"],
        "BadProcesses": ["value"],
        "BadText": ["index"],
        "BadHistory": ["error"],
        "NoProcess": ["value"],
        "NoMessage": ["value"],
    },
}


class InterfaceTest(unittest.TestCase):
    def test_arguments(self):
        for module, functions in ARGUMENTS.items():
            for name, arguments in functions.items():
                found = inspect.signature(getattr(module, name)).parameters
                self.assertEqual(list(found), arguments, name)

    def test_each_name_is_defined_in_its_own_file(self):
        for module, functions in ARGUMENTS.items():
            for name in functions:
                self.assertEqual(getattr(module, name).__module__, module.__name__, name)


if __name__ == "__main__":
    unittest.main()

"""The names and arguments of the interface that have landed."""

import inspect
import unittest

from savelines import causes, errors, falling, histories, lines, zigzags

ARGUMENTS = {
    histories: {
        "is_history": ["value"],
        "history_error": ["value"],
        "state_numbers": ["history"],
        "place_of": ["history", "state"],
        "sent_at": ["history", "message"],
        "received_at": ["history", "message"],
        "some_order": ["history"],
        "with_event": ["history", "process", "event"],
    },
    lines: {
        "is_line": ["history", "value"],
        "orphans": ["history", "line"],
        "is_consistent": ["history", "line"],
        "in_transit": ["history", "line"],
        "undone_events": ["history", "line"],
        "lower_line": ["*lines"],
        "upper_line": ["*lines"],
        "all_lines": ["history", "*states"],
    },
    zigzags: {
        "is_zigzag": ["history", "one", "other", "value"],
        "find_zigzag": ["history", "one", "other"],
        "is_useless": ["history", "state"],
        "useless_states": ["history"],
        "line_through": ["history", "*states", "first=True"],
        "verdict": ["history", "*states"],
        "verdict_holds": ["history", "states", "value"],
    },
    falling: {
        "fall_back": ["history", "*failed"],
        "fall_holds": ["history", "failed", "value"],
        "fall_causes": ["history", "*failed"],
        "needed_states": ["history"],
        "deletable_states": ["history"],
        "smaller_history": ["history"],
    },
    causes: {
        "is_causal": ["history", "messages"],
        "comes_before": ["history", "one", "other"],
        "vector_of": ["history", "state"],
        "is_tracked": ["history"],
        "find_untracked": ["history"],
    },
    errors: {
        "BadEvent": ["event"],
        "TwoStates": ["process"],
        "NotTogether": ["one", "other"],
        "NoRule": ["value"],
        "TooManySteps": ["limit"],
        "BadStep": ["index"],
        "Refused": ["index"],
        "BadProcesses": ["value"],
        "BadText": ["index"],
        "BadHistory": ["error"],
        "NoProcess": ["value"],
        "NoMessage": ["value"],
    },
}


class InterfaceTest(unittest.TestCase):
    def test_arguments(self):
        for module, functions in ARGUMENTS.items():
            for name, arguments in functions.items():
                found = inspect.signature(getattr(module, name)).parameters.values()
                self.assertEqual([str(argument) for argument in found], arguments, name)

    def test_first_is_passed_by_name(self):
        first = inspect.signature(zigzags.line_through).parameters["first"]
        self.assertIs(first.kind, inspect.Parameter.KEYWORD_ONLY)
        with self.assertRaises(TypeError):
            zigzags.line_through((), last=True)

    def test_each_name_is_defined_in_its_own_file(self):
        for module, functions in ARGUMENTS.items():
            for name in functions:
                self.assertEqual(getattr(module, name).__module__, module.__name__, name)


if __name__ == "__main__":
    unittest.main()

"""The names and arguments of the interface."""

import inspect
import unittest

from savelines import (
    bounds, causes, consoles, errors, falling, histories, lines, recorders, rules, texts, zigzags,
)

ARGUMENTS = {
    histories: {
        "is_history": ["value"],
        "history_error": ["value"],
        "state_numbers": ["history"],
        "place_of": ["history", "state"],
        "sent_at": ["history", "message"],
        "received_at": ["history", "message"],
        "some_order": ["history"],
        "with_event": ["history", "process", "event"],
    },
    lines: {
        "is_line": ["history", "value"],
        "orphans": ["history", "line"],
        "is_consistent": ["history", "line"],
        "in_transit": ["history", "line"],
        "undone_events": ["history", "line"],
        "lower_line": ["*lines"],
        "upper_line": ["*lines"],
        "all_lines": ["history", "*states"],
    },
    zigzags: {
        "is_zigzag": ["history", "one", "other", "value"],
        "find_zigzag": ["history", "one", "other"],
        "is_useless": ["history", "state"],
        "useless_states": ["history"],
        "line_through": ["history", "*states", "first=True"],
        "verdict": ["history", "*states"],
        "verdict_holds": ["history", "states", "value"],
    },
    falling: {
        "fall_back": ["history", "*failed"],
        "fall_holds": ["history", "failed", "value"],
        "fall_causes": ["history", "*failed"],
        "needed_states": ["history"],
        "deletable_states": ["history"],
        "smaller_history": ["history"],
    },
    causes: {
        "is_causal": ["history", "messages"],
        "comes_before": ["history", "one", "other"],
        "vector_of": ["history", "state"],
        "is_tracked": ["history"],
        "find_untracked": ["history"],
    },
    rules: {
        "Rule": ["processes"],
        "SaveAfterSend": ["processes"],
        "SaveAlways": ["processes"],
        "Rounds": ["processes"],
        "run_plan": ["rule", "plan"],
    },
    recorders: {"Recorder": ["processes", "rule='none'", "limit=60"]},
    texts: {"history_text": ["history"], "line_text": ["line"], "parse_history": ["value"]},
    consoles: {"Console": ["recorder"]},
    errors: {
        "BadEvent": ["event"],
        "TwoStates": ["process"],
        "NotTogether": ["one", "other"],
        "NoRule": ["value"],
        "TooManySteps": ["limit"],
        "BadStep": ["index"],
        "Refused": ["index"],
        "BadProcesses": ["value"],
        "BadText": ["index"],
        "BadHistory": ["error"],
        "NoProcess": ["value"],
        "NoMessage": ["value"],
    },
}

RULE_METHODS = {"save": ["process"], "send": ["process"], "receive": ["process", "note"]}
METHODS = {
    rules.Rule: RULE_METHODS,
    rules.SaveAfterSend: RULE_METHODS,
    rules.SaveAlways: RULE_METHODS,
    rules.Rounds: RULE_METHODS,
    recorders.Recorder: {
        "save": ["process"],
        "send": ["process"],
        "receive": ["process", "message"],
        "undo": [],
        "done": ["*steps", "keep=True"],
        "set_failed": ["value"],
        "walk": [],
        "copy": [],
    },
    consoles.Console: {"execute": ["line"], "transcript": []},
}
PROPERTIES = {
    rules.Rule: ["forced"],
    rules.SaveAfterSend: ["forced"],
    rules.SaveAlways: ["forced"],
    rules.Rounds: ["forced"],
    recorders.Recorder: ["history", "steps", "forced", "failed", "line", "useless", "text"],
}
VALUES = {
    rules.Rule: {"NAME": "none"},
    rules.SaveAfterSend: {"NAME": "sent"},
    rules.SaveAlways: {"NAME": "always"},
    rules.Rounds: {"NAME": "rounds"},
    recorders.Recorder: {"LIMIT": 60},
    bounds: {"MAX_PROCESSES": 6, "MAX_MESSAGES": 24, "MAX_EVENTS": 60},
}
BY_NAME = [
    (zigzags.line_through, "first"), (recorders.Recorder, "rule"), (recorders.Recorder, "limit"),
    (recorders.Recorder.done, "keep"), (recorders.Recorder.read, "limit"),
]


class InterfaceTest(unittest.TestCase):
    def test_arguments(self):
        for module, functions in ARGUMENTS.items():
            for name, arguments in functions.items():
                found = inspect.signature(getattr(module, name)).parameters.values()
                self.assertEqual([str(argument) for argument in found], arguments, name)

    def test_what_is_passed_by_name(self):
        for function, name in BY_NAME:
            parameter = inspect.signature(function).parameters[name]
            self.assertIs(parameter.kind, inspect.Parameter.KEYWORD_ONLY, (function, name))
        with self.assertRaises(TypeError):
            zigzags.line_through((), last=True)

    def test_methods_are_defined_in_each_class_itself(self):
        for kind, methods in METHODS.items():
            for name, arguments in methods.items():
                found = list(inspect.signature(vars(kind)[name]).parameters.values())
                self.assertEqual([str(argument) for argument in found[1:]], arguments, (kind, name))

    def test_class_method(self):
        read = vars(recorders.Recorder)["read"]
        self.assertIsInstance(read, classmethod)
        found = inspect.signature(recorders.Recorder.read).parameters.values()
        self.assertEqual([str(argument) for argument in found], ["value", "limit=60"])

    def test_properties_are_defined_in_each_class_itself(self):
        for kind, names in PROPERTIES.items():
            for name in names:
                found = vars(kind)[name]
                self.assertIsInstance(found, property, (kind, name))
                self.assertEqual(found.fset is not None, name == "failed")

    def test_values(self):
        for kind, values in VALUES.items():
            for name, value in values.items():
                self.assertEqual(repr(vars(kind)[name]), repr(value))

    def test_each_name_is_defined_in_its_own_file(self):
        for module, functions in ARGUMENTS.items():
            for name in functions:
                self.assertEqual(getattr(module, name).__module__, module.__name__, name)


if __name__ == "__main__":
    unittest.main()

"""The rules, and the histories of plans under them (points 2, 3 and 9)."""

import unittest

from savelines.causes import is_tracked
from savelines.errors import NoRule
from savelines.histories import is_history
from savelines.rules import Rounds, Rule, SaveAfterSend, SaveAlways, rule_named, run_plan
from savelines.zigzags import useless_states
from tests import plain
from tests.samples import odd_values, random_plan, same_twice

RULES = {"none": Rule, "sent": SaveAfterSend, "always": SaveAlways, "rounds": Rounds}


def told(rule, *steps):
    """Tell the rule the steps, each a word and its values, and return its answers."""
    return [getattr(rule, word)(*values) for word, *values in steps]


class ClassesTest(unittest.TestCase):
    def test_names(self):
        self.assertEqual([(kind.NAME, kind(2).NAME) for kind in RULES.values()],
                         [(name, name) for name in ("none", "sent", "always", "rounds")])

    def test_bases(self):
        derived = {(a, b) for a in RULES for b in RULES if issubclass(RULES[a], RULES[b])}
        expected = {(name, name) for name in RULES}
        expected |= {(name, "none") for name in RULES} | {("always", "sent")}
        self.assertEqual(derived, expected)

    def test_everything_is_defined_in_each_class_itself(self):
        for name, kind in RULES.items():
            for method in ("save", "send", "receive", "forced", "NAME"):
                self.assertIn(method, vars(kind), (name, method))
            self.assertIsInstance(vars(kind)["forced"], property)
            self.assertEqual(kind.__module__, "savelines.rules")

    def test_forced_cannot_be_assigned(self):
        for kind in RULES.values():
            with self.assertRaises(AttributeError):
                kind(2).forced = 1

    def test_rules_do_not_share_what_they_remember(self):
        for name in ("sent", "always", "rounds"):
            first, second = RULES[name](2), RULES[name](2)
            told(first, ("save", 0), ("send", 0), ("save", 1), ("save", 1), ("send", 1))
            self.assertEqual(told(second, ("receive", 0, 0), ("receive", 1, 0)), [False, False])
            self.assertEqual(second.forced, 0)

    def test_a_rule_by_its_name(self):
        for name, kind in RULES.items():
            self.assertIs(type(rule_named(name, 3)), kind)
        for value in odd_values():
            with self.assertRaises(NoRule) as caught:
                rule_named(value, 3)
            self.assertIs(caught.exception.value, value)


class AnswersTest(unittest.TestCase):
    def test_example(self):
        rule = Rounds(2)
        found = [rule.save(0), rule.send(0), rule.receive(1, 1), rule.receive(1, 1), rule.send(1),
                 rule.forced, Rounds.NAME]
        self.assertEqual(found, [None, 1, True, False, 1, 1, "rounds"])

    def test_save_returns_none(self):
        for kind in RULES.values():
            rule = kind(3)
            self.assertEqual(told(rule, ("save", 0), ("save", 2), ("save", 0)), [None] * 3)
            self.assertEqual(rule.forced, 0)

    def test_notes(self):
        for name in ("none", "sent", "always"):
            rule = RULES[name](2)
            self.assertEqual(told(rule, ("send", 0), ("save", 0), ("send", 0)), [None] * 3)
        rule = Rounds(2)
        self.assertEqual(told(rule, ("send", 0), ("save", 0), ("send", 0), ("send", 1)),
                         [0, None, 1, 0])

    def test_the_rule_that_never_wants_a_save(self):
        rule = Rule(2)
        for _ in range(5):
            self.assertEqual(told(rule, ("send", 0), ("receive", 0, None)), [None, False])
        self.assertEqual(rule.forced, 0)

    def test_a_sending_since_the_last_save(self):
        rule = SaveAfterSend(2)
        self.assertIs(rule.receive(0, None), False)
        told(rule, ("send", 0))
        self.assertIs(rule.receive(1, None), False)
        self.assertIs(rule.receive(0, None), True)
        # The save that the rule wanted counts as the last one; the receipt does not matter.
        self.assertIs(rule.receive(0, None), False)
        told(rule, ("send", 0), ("send", 0), ("save", 0))
        self.assertIs(rule.receive(0, None), False)
        self.assertEqual(rule.forced, 1)

    def test_a_save_of_another_process_does_not_matter(self):
        for name in ("sent", "always"):
            rule = RULES[name](2)
            told(rule, ("send", 0), ("save", 1))
            self.assertIs(rule.receive(0, None), True)

    def test_a_receipt_since_the_last_save(self):
        rule = SaveAlways(2)
        self.assertIs(rule.receive(0, None), False)
        self.assertIs(rule.receive(0, None), True)
        # The receipt comes behind the save that the rule wanted.
        self.assertIs(rule.receive(0, None), True)
        told(rule, ("save", 0))
        self.assertIs(rule.receive(0, None), False)
        told(rule, ("save", 0), ("send", 0))
        self.assertIs(rule.receive(0, None), True)
        self.assertIs(rule.receive(1, None), False)
        self.assertEqual(rule.forced, 3)

    def test_rounds(self):
        rule = Rounds(3)
        self.assertEqual(told(rule, ("receive", 0, 0), ("receive", 0, 5), ("send", 0)),
                         [False, True, 5])
        # A save that the rule wanted does not add 1 itself.
        self.assertEqual(told(rule, ("receive", 0, 5), ("receive", 0, 4), ("send", 0)),
                         [False, False, 5])
        self.assertEqual(told(rule, ("save", 0), ("send", 0), ("receive", 0, 6)), [None, 6, False])
        self.assertEqual(told(rule, ("receive", 0, 7), ("send", 0), ("send", 1)), [True, 7, 0])
        self.assertEqual(rule.forced, 2)

    def test_rounds_with_very_great_notes(self):
        rule, note = Rounds(2), 10 ** 30 - 1
        self.assertEqual(told(rule, ("receive", 1, note - 1), ("send", 1)), [True, note - 1])
        self.assertEqual(told(rule, ("receive", 1, note), ("receive", 1, note)), [True, False])
        self.assertEqual(told(rule, ("save", 1), ("send", 1), ("send", 0)), [None, note + 1, 0])

    def test_any_note(self):
        for name in ("none", "sent", "always"):
            rule, other = RULES[name](2), RULES[name](2)
            for value in odd_values():
                held = repr(value)
                steps = [("send", 0), ("receive", 0, value), ("receive", 0, value)]
                same = [step[:2] + (None,) * (len(step) - 2) for step in steps]
                self.assertEqual(told(rule, *steps), told(other, *same), (name, value))
                self.assertEqual(repr(value), held)
            self.assertEqual(rule.forced, other.forced)

    def test_one_process_and_many(self):
        for name, kind in RULES.items():
            for processes in (1, 6):
                rule, last = kind(processes), processes - 1
                answers = told(rule, ("save", last), ("send", last), ("receive", last, 1),
                               ("receive", last, 2))
                expected = {"none": [False, False], "sent": [True, False], "always": [True, True],
                            "rounds": [False, True]}[name]
                self.assertEqual(answers, [None, 1 if name == "rounds" else None, *expected])
                self.assertEqual(rule.forced, sum(expected))


class PlansTest(unittest.TestCase):
    def test_example(self):
        plan = (("send", 1), ("receive", 0, 1), ("save", 0), ("send", 0), ("receive", 1, 2))
        self.assertEqual(run_plan(SaveAfterSend(2), plan), ((-1, 0, 2), (1, 0, -2)))

    def test_the_example_under_the_other_rules(self):
        plan = (("send", 1), ("receive", 0, 1), ("save", 0), ("send", 0), ("receive", 1, 2))
        self.assertEqual(run_plan(Rule(2), plan), ((-1, 0, 2), (1, -2)))
        self.assertEqual(run_plan(SaveAlways(2), plan), ((-1, 0, 2), (1, 0, -2)))
        self.assertEqual(run_plan(Rounds(2), plan), ((-1, 0, 2), (1, 0, -2)))

    def test_no_steps(self):
        for kind in RULES.values():
            for processes in range(1, 7):
                self.assertEqual(run_plan(kind(processes), ()), ((),) * processes)

    def test_the_note_is_the_one_of_the_sending(self):
        # Message 1 is sent with 0, and message 2 with 2, whatever happens until the receipts.
        plan = (("send", 0), ("save", 0), ("save", 0), ("send", 0), ("save", 0),
                ("receive", 1, 1), ("receive", 1, 2), ("send", 1))
        rule = Rounds(2)
        self.assertEqual(run_plan(rule, plan), ((1, 0, 0, 2, 0), (-1, 0, -2, 3)))
        self.assertEqual([rule.forced, rule.send(1), rule.send(0)], [1, 2, 3])

    def test_the_rule_remembers_the_steps(self):
        plan = (("send", 0), ("receive", 1, 1))
        for name, expected in (("none", [False, False]), ("sent", [True, False]),
                               ("always", [True, True])):
            rule = RULES[name](2)
            run_plan(rule, plan)
            self.assertEqual([rule.receive(p, None) for p in (0, 1)], expected)

    def test_most_events_and_messages(self):
        plan = (("send", 0),) * 24 + tuple(("receive", 5, m) for m in range(24, 0, -1))
        plan += (("save", 3),) * 12
        row = tuple(range(-24, 0))
        self.assertEqual(run_plan(SaveAfterSend(6), plan),
                         (tuple(range(1, 25)), (), (), (0,) * 12, (), row))
        self.assertEqual(run_plan(Rule(6), plan)[5], row)

    def test_drawn_plans(self):
        for seed in range(600):
            processes, plan = random_plan(seed)
            for name, kind in RULES.items():
                held, rule = repr(plan), kind(processes)
                history = run_plan(rule, plan)
                self.assertEqual((history, rule.forced), plain.planned(name, processes, plan))
                self.assertTrue(is_history(history))
                self.assertEqual(repr(plan), held)

    def test_equal_calls(self):
        for seed in range(20):
            processes, plan = random_plan(seed)
            for kind in RULES.values():
                same_twice(lambda plan: run_plan(kind(processes), plan), plan)

    def test_no_state_is_useless(self):
        useless = 0
        for seed in range(400):
            processes, plan = random_plan(seed)
            useless += len(useless_states(run_plan(Rule(processes), plan)))
            for name in ("sent", "always", "rounds"):
                history = run_plan(RULES[name](processes), plan)
                self.assertEqual(useless_states(history), (), (name, history))
        # The same plans without a rule show that there is something to prevent.
        self.assertGreater(useless, 100)

    def test_tracked(self):
        without = 0
        for seed in range(300):
            processes, plan = random_plan(seed)
            without += not is_tracked(run_plan(Rule(processes), plan))
            without += not is_tracked(run_plan(Rounds(processes), plan))
            for name in ("sent", "always"):
                history = run_plan(RULES[name](processes), plan)
                self.assertTrue(is_tracked(history), (name, history))
        self.assertGreater(without, 50)


if __name__ == "__main__":
    unittest.main()

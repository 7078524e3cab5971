"""Long drawn runs of recorders: steps, undos and errors between them (guarantees (e) and (h))."""

import itertools
import random
import unittest

from savelines.falling import deletable_states, fall_back
from savelines.recorders import Recorder
from savelines.rules import rule_named, run_plan
from savelines.zigzags import useless_states
from tests import plain
from tests.samples import odd_values
from tests.test_recorders import NAMES, seen

ODD = odd_values() + [6, 24, 25, -1, (0,), [1], {"1": 1}, "v0", True]


class Pair:
    """A recorder, and beside it the steps that ought to stand and the failed processes."""

    def __init__(self, seed):
        self.rng = random.Random(seed)
        self.name = NAMES[seed % 4]
        self.processes = self.rng.choice([1, 2, 2, 3, 4, 6])
        self.limit = self.rng.choice([0, 3, 20, 60, 60, 60, 60])
        self.words = self.rng.choice([
            ["send", "receive", "receive", "receive", "save"], ["send", "send", "receive", "save"],
            ["send", "send", "receive", "receive", "receive", "receive"]])
        self.recorder = Recorder(self.processes, rule=self.name, limit=self.limit)
        self.steps, self.failed = (), ()

    def drawn_number(self, most):
        """Return a number that mostly fits, or any value."""
        return self.rng.choice(ODD) if self.rng.random() < 0.04 else self.rng.randint(0, most)

    def drawn_step(self):
        """Return a step, which mostly can be done."""
        word = self.rng.choice(self.words)
        if word != "receive":
            return (word, self.drawn_number(self.processes - 1))
        sent = [p for kind, p, *_ in self.steps if kind == "send"]
        taken = [rest[0] for kind, p, *rest in self.steps if kind == "receive"]
        fitting = [
            (p, m) for m, sender in enumerate(sent, start=1) if m not in taken
            for p in range(self.processes) if p != sender]
        if fitting and self.rng.random() < 0.9:
            return (word, *self.rng.choice(fitting))
        return (word, self.drawn_number(self.processes - 1), self.drawn_number(24))

    def expected(self, step):
        """Return what the recorder ought to answer to the step; add it if it can be done."""
        found = plain.answer(self.name, self.processes, self.limit, self.steps, step)
        if not isinstance(found, tuple):
            self.steps += (step,)
        return found

    def expected_of_many(self, steps, keep):
        """Return what the recorder ought to answer to several steps at once."""
        for index, step in enumerate(steps):
            if not plain.has_form(step):
                return ("BadStep", index)
        before = self.steps
        for index, step in enumerate(steps):
            if isinstance(self.expected(step), tuple):
                self.steps = before
                return ("Refused", index)
        history = plain.planned(self.name, self.processes, self.steps)[0]
        if not keep:
            self.steps = before
        return history

    def go_on(self):
        """Do something drawn, and return what the recorder answers and what it ought to."""
        kind = self.rng.random()
        if kind < 0.12:
            expected = ("NothingToUndo",) if not self.steps else len(self.steps) - 1
            self.steps = self.steps[:-1]
            return answered(self.recorder.undo), expected
        if kind < 0.22:
            steps = [self.drawn_step() for _ in range(self.rng.randint(0, 3))]
            if self.rng.random() < 0.1:
                steps.insert(self.rng.randint(0, len(steps)), self.rng.choice(ODD))
            keep = self.rng.random() < 0.5
            found = answered(lambda: self.recorder.done(*steps, keep=keep))
            return found, self.expected_of_many(steps, keep)
        if kind < 0.26:
            ways = [(), (0,), (0, 1), (1,), (1, 0), (self.processes,), [0], (False,)]
            return self.fail(self.rng.choice(ways))
        step = self.drawn_step()
        found = answered(lambda: getattr(self.recorder, step[0])(*step[1:]))
        return found, self.expected(step)

    def fail(self, value):
        """Set the failed processes, and return the answer and what it ought to be."""
        found = answered(lambda: self.recorder.set_failed(value))
        good = type(value) is tuple and list(value) == sorted(set(value))
        if not good or not all(plain.is_number(p, 0, self.processes - 1) for p in value):
            return found, ("BadProcesses", value)
        self.failed = value
        history = plain.planned(self.name, self.processes, self.steps)[0]
        return found, fall_back(history, *value)

    def shown(self):
        """Return what the recorder ought to show."""
        history, forced = plain.planned(self.name, self.processes, self.steps)
        text = plain.steps_text(self.name, self.processes, self.steps)
        events = sum(map(len, history))
        return (history, self.steps, forced, self.failed, text, len(self.steps),
                f"{self.processes} processes, {events} events, {forced} forced")


def shown(recorder):
    """Return what a recorder shows at once."""
    return (recorder.history, recorder.steps, recorder.forced, recorder.failed, recorder.text,
            len(recorder), str(recorder))


def answered(call):
    """Return what the call returns, or the error that it raises, as its name and its fields."""
    try:
        return call()
    except (ValueError, LookupError) as error:
        return (type(error).__name__, *vars(error).values())


def strict(value):
    """Return the repr, which tells True from 1."""
    return repr(value)


class RunsTest(unittest.TestCase):
    def test_each_answer_and_what_is_shown_then(self):
        errors = set()
        for seed in range(240):
            pair = Pair(seed)
            for _ in range(90):
                found, expected = pair.go_on()
                self.assertEqual(strict(found), strict(expected))
                self.assertEqual(strict(shown(pair.recorder)), strict(pair.shown()))
                if isinstance(found, tuple) and found and isinstance(found[0], str):
                    errors.add(found[0])
        self.assertEqual(errors, {
            "NothingToUndo", "BadStep", "Refused", "BadProcesses", "NoProcess", "NoMessage", "Full",
            "TooManySteps"})

    def test_like_a_new_one_on_which_the_remaining_steps_were_done(self):
        for seed in range(120):
            pair = Pair(seed)
            for count in range(60):
                pair.go_on()
                if count % 12 == 11:
                    self.compare_with_new(pair)

    def compare_with_new(self, pair):
        """Compare the recorder with a new one, with its text and a copy, also in later steps."""
        old, new = pair.recorder, Recorder(pair.processes, rule=pair.name, limit=pair.limit)
        self.assertEqual(new.done(*old.steps), old.history)
        self.assertEqual(run_plan(rule_named(pair.name, pair.processes), old.steps), old.history)
        self.assertTrue(Recorder.read(old.text, limit=pair.limit) == new)
        new.failed = old.failed
        self.assertTrue(new == old)
        self.assertEqual(seen(new), seen(old))
        old, new = old.copy(), new.copy()
        for word, *values in [pair.drawn_step() for _ in range(8)] + [("undo",)] * 3:
            found = [answered(lambda: getattr(r, word)(*values)) for r in (old, new)]
            self.assertEqual(strict(found[0]), strict(found[1]))
        self.assertEqual(seen(new), seen(old))

    def test_undo_after_undo_leads_back_through_the_walk(self):
        for seed in range(40):
            pair = Pair(seed)
            for _ in range(60):
                pair.go_on()
            histories = list(pair.recorder.walk())
            for history in histories[-2::-1]:
                pair.recorder.undo()
                self.assertEqual(pair.recorder.history, history)
            self.assertEqual(answered(pair.recorder.undo), ("NothingToUndo",))

    def test_no_state_is_useless_under_the_rules(self):
        for seed in range(200):
            pair = Pair(seed)
            for count in range(50):
                pair.go_on()
                if pair.name != "none" and count % 5 == 0:
                    self.assertEqual(pair.recorder.useless, ())
            self.assertEqual(pair.recorder.useless, useless_states(pair.recorder.history))

    def test_what_can_be_deleted_is_in_no_later_line(self):
        deleted = 0
        for seed in range(80):
            pair = Pair(seed)
            while pair.steps == () and pair.limit > 0:
                pair.go_on()
            for _ in range(60):
                step = pair.drawn_step()
                if plain.is_number(step[1], 0, pair.processes - 1):
                    answered(lambda: getattr(pair.recorder, step[0])(*step[1:]))
                    pair.steps = pair.recorder.steps
            deletable = set()
            ways = [some for n in (1, 2, 6)
                    for some in itertools.combinations(range(pair.processes), n)]
            for history in pair.recorder.walk():
                for failed in ways:
                    line = fall_back(history, *failed)
                    self.assertFalse(deletable.intersection(enumerate(line)), (history, failed))
                deletable.update(deletable_states(history))
            deleted += len(deletable)
        self.assertGreater(deleted, 300)


if __name__ == "__main__":
    unittest.main()

"""The guarantees (a) to (i) for the histories that rules and recorders make (point 2)."""

import itertools
import random
import unittest

from savelines.causes import comes_before, find_untracked, is_tracked, vector_of
from savelines.falling import deletable_states, fall_back, fall_holds, needed_states
from savelines.histories import all_states, is_history, state_numbers
from savelines.lines import all_lines, is_consistent, lower_line, upper_line
from savelines.recorders import Recorder
from savelines.zigzags import (
    find_zigzag, is_useless, is_zigzag, line_through, useless_states, verdict, verdict_holds,
)
from tests import plain
from tests.samples import random_plan
from tests.test_recorders import NAMES

FORCING = ("sent", "always", "rounds")


def recorders(count, most_steps, names=NAMES):
    """Return recorders on which drawn plans were done, each plan under each of the rules."""
    found = []
    for seed in range(count):
        processes, steps = random_plan(seed, most_steps)
        for name in names:
            recorder = Recorder(processes, rule=name)
            recorder.done(*steps)
            found.append(recorder)
    return found


def chosen_states(history, seed):
    """Return a few choices of states of different processes."""
    rng = random.Random(seed)
    states = all_states(history)
    choices = [(), *[(state,) for state in states[:40]]]
    for _ in range(25):
        some = {process: (process, number) for process, number in rng.sample(states, len(states))}
        choices.append(tuple(list(some.values())[:rng.randint(2, 6)]))
    return choices


class GuaranteesTest(unittest.TestCase):
    def test_a_either_a_line_or_a_zigzag(self):
        words = {"line": 0, "zigzag": 0}
        for seed, recorder in enumerate(recorders(25, 40)):
            history = recorder.history
            for states in chosen_states(history, seed):
                found = verdict(history, *states)
                words[found[0]] += 1
                self.assertTrue(verdict_holds(history, states, found))
                line = next(all_lines(history, *states), None)
                zigzags = [
                    find_zigzag(history, one, other) for one in states for other in states]
                self.assertEqual(line is None, any(zigzag is not None for zigzag in zigzags))
                self.assertEqual(found[0], "zigzag" if line is None else "line")
        self.assertGreater(min(words.values()), 200)

    def test_b_lower_and_upper_lines(self):
        for recorder in recorders(40, 40):
            history = recorder.history
            lines = list(itertools.islice(all_lines(history), 12))
            lines += [line_through(history, first=False), recorder.line]
            for one, other in itertools.combinations(lines, 2):
                self.assertTrue(is_consistent(history, lower_line(one, other)))
                self.assertTrue(is_consistent(history, upper_line(one, other)))

    def test_c_a_state_in_no_line(self):
        useless = 0
        for recorder in recorders(60, 60, ("none",)):
            history = recorder.history
            for state in all_states(history):
                found = is_useless(history, state)
                useless += found
                self.assertEqual(found, next(all_lines(history, state), None) is None)
                self.assertEqual(found, find_zigzag(history, state, state) is not None)
        self.assertGreater(useless, 10)

    def test_d_several_failed_processes(self):
        for recorder in recorders(40, 60):
            processes = range(len(recorder.history))
            alone = {process: recorder.set_failed((process,)) for process in processes}
            for count in range(2, len(processes) + 1):
                for failed in itertools.combinations(processes, count):
                    lower = lower_line(*[alone[process] for process in failed])
                    self.assertEqual(recorder.set_failed(failed), lower)

    def test_e_what_can_be_deleted_as_plans_go_on(self):
        deletable_at_all = 0
        for recorder in recorders(30, 60):
            histories = list(recorder.walk())
            deletable = set()
            for history in histories:
                for process in range(len(history)):
                    line = fall_back(history, process)
                    self.assertFalse(deletable.intersection(enumerate(line)))
                deletable.update(deletable_states(history))
                self.assertFalse(deletable.intersection(needed_states(history)))
            deletable_at_all += len(deletable)
        self.assertGreater(deletable_at_all, 100)

    def test_f_no_useless_state_and_tracked(self):
        for recorder in recorders(150, 60, FORCING):
            self.assertEqual(recorder.useless, ())
        for recorder in recorders(100, 60, ("sent", "always")):
            self.assertIsNone(find_untracked(recorder.history))

    def test_f_all_plans_of_few_steps(self):
        useless = untracked = 0
        plans = self.plans_of(6)
        self.assertGreater(len(plans), 3000)
        for plan in plans:
            for name in NAMES:
                recorder = Recorder(2, rule=name)
                history = recorder.done(*plan)
                if name in FORCING:
                    self.assertEqual(recorder.useless, (), (name, plan))
                tracked = is_tracked(history)
                self.assertTrue(tracked or name not in ("sent", "always"), (name, plan))
                useless += recorder.useless != ()
                untracked += not tracked
        self.assertGreater(useless, 10)
        self.assertGreaterEqual(untracked, useless)

    def plans_of(self, length):
        """Return all plans of two processes with so many steps; process 0 sends first."""
        steps = [(word, process) for word in ("save", "send") for process in (0, 1)]
        steps += [("receive", process, message) for process in (0, 1) for message in (1, 2, 3)]
        plans = [(("send", 0),)]
        for _ in range(length - 1):
            plans = [
                plan + (step,) for plan in plans for step in steps
                if not isinstance(plain.answer("none", 2, 60, plan, step), tuple)]
        return plans

    def test_g_what_holds_is_correct(self):
        rng, held = random.Random(7), 0
        for recorder in recorders(40, 24):
            history = recorder.history
            states = all_states(history)
            numbers = [range(last + 1) for last in state_numbers(history)]
            lines = [tuple(map(rng.choice, numbers)) for _ in range(20)]
            present = state_numbers(history)
            for line in lines:
                for failed in ((), (0,)):
                    self.assertEqual(fall_holds(history, failed, line),
                                     line == fall_back(history, *failed))
                given = rng.choice(list(enumerate(line)))
                fitting = not plain.orphans(history, line)
                self.assertEqual(verdict_holds(history, (given,), ("line", line)), fitting)
            messages = plain.received(history) or [1]
            for _ in range(200):
                one, other = rng.choice(states), rng.choice(states)
                zigzag = tuple(rng.choice(messages) for _ in range(rng.randint(1, 3)))
                found = is_zigzag(history, one, other, zigzag)
                held += found
                expected = plain.received(history) != [] and plain.is_zigzag(
                    history, one, other, zigzag)
                self.assertEqual(found, expected)
            self.assertTrue(fall_holds(history, (), present))
        self.assertGreater(held, 100)

    def test_h_undo_to_any_step(self):
        for recorder in recorders(12, 30):
            while len(recorder) > 0:
                recorder.undo()
                new = Recorder(len(recorder.history), rule=recorder.text.split(" ")[1][:-1])
                new.done(*recorder.steps)
                self.assertTrue(recorder == new)
                self.assertEqual((recorder.text, recorder.forced), (new.text, new.forced))
                self.assertEqual(list(recorder.walk()), list(new.walk()))

    def test_i_the_vector_is_the_least_line(self):
        for recorder in recorders(40, 40, ("sent", "always")):
            history = recorder.history
            for state in all_states(history):
                vector = vector_of(history, state)
                self.assertEqual(vector, line_through(history, state))
                self.assertEqual(vector, next(all_lines(history, state)))
                self.assertTrue(all(
                    comes_before(history, (process, number - 1), state)
                    for process, number in enumerate(vector) if number > 0))

    def test_each_history_is_one(self):
        for recorder in recorders(100, 60):
            for history in recorder.walk():
                self.assertTrue(is_history(history))
            self.assertEqual(recorder.useless, useless_states(recorder.history))


if __name__ == "__main__":
    unittest.main()

"""Recorders: their steps, errors, properties and copies (points 3 and 10)."""

import unittest

from savelines.errors import Full, LineError, NothingToUndo, NoMessage, NoProcess
from savelines.falling import fall_back
from savelines.recorders import Recorder
from savelines.zigzags import useless_states
from tests import plain
from tests.samples import odd_values, raised, random_plan

NAMES = plain.NAMES


def seen(recorder):
    """Return all that a recorder shows without being changed."""
    return (recorder.history, recorder.steps, recorder.forced, recorder.failed, recorder.text,
            recorder.line, recorder.useless, len(recorder), str(recorder), list(recorder.walk()))


def kept_at(recorder, *calls):
    """Return the errors of the calls; check that they change nothing that the recorder shows."""
    before, found = seen(recorder), []
    for name, *values in calls:
        found.append(raised(getattr(recorder, name), *values))
        if seen(recorder) != before:
            raise AssertionError((name, values))
    return found


def odd_numbers():
    """Return values that are no number of a process and no number of a message."""
    return [value for value in odd_values() + [True, 6, 25, 1.0, (0, 1), {"0": 0}, [[1]], "0"]
            if type(value) is not int or not 0 < value < 6]


class BeginningTest(unittest.TestCase):
    def test_example(self):
        recorder = Recorder(2, rule="sent")
        self.assertEqual([recorder.history, len(recorder), Recorder.LIMIT], [((), ()), 0, 60])

    def test_new_recorders(self):
        for name in NAMES:
            for processes in range(1, 7):
                for limit in (0, 1, 60):
                    recorder = Recorder(processes, rule=name, limit=limit)
                    self.assertEqual(seen(recorder), (
                        ((),) * processes, (), 0, (), f"{processes} {name}:", (1,) * processes, (),
                        0, f"{processes} processes, 0 events, 0 forced", [((),) * processes]))

    def test_rule_and_limit_are_passed_by_name(self):
        for values in ((2, "sent"), (2, "sent", 60)):
            with self.assertRaises(TypeError):
                Recorder(*values)

    def test_limit_is_a_class_value(self):
        self.assertEqual((Recorder.LIMIT, Recorder(1, limit=3).LIMIT), (60, 60))

    def test_no_rule(self):
        values = odd_values() + ["None", "Sent", "sent ", " sent", "sen", "sent:", "saves", ("sent",),
                                 ["none"], {"none": 1}, {"rule": "none"}, b"none"]
        for value in values:
            with self.assertRaises(LineError) as caught:
                Recorder(2, rule=value)
            self.assertEqual(type(caught.exception).__name__, "NoRule")
            self.assertIs(caught.exception.value, value)


class StepsTest(unittest.TestCase):
    def test_example(self):
        recorder = Recorder(2, rule="sent")
        found = [recorder.send(1), recorder.receive(0, 1), recorder.send(0), recorder.receive(1, 2),
                 recorder.history]
        self.assertEqual(found, [1, 1, 2, 2, ((-1, 2), (1, 0, -2))])

    def test_what_the_steps_return(self):
        recorder = Recorder(3, rule="always")
        self.assertEqual([recorder.save(2), recorder.send(2), recorder.send(1)], [1, 1, 2])
        self.assertEqual([recorder.receive(0, 2), recorder.receive(0, 1)], [1, 2])
        self.assertEqual(recorder.steps, (
            ("save", 2), ("send", 2), ("send", 1), ("receive", 0, 2), ("receive", 0, 1)))
        self.assertEqual((recorder.forced, len(recorder)), (1, 5))
        self.assertEqual(str(recorder), "3 processes, 6 events, 1 forced")

    def test_each_rule(self):
        steps = (("send", 0), ("send", 1), ("receive", 0, 2), ("save", 1), ("send", 1),
                 ("receive", 0, 3), ("receive", 1, 1))
        expected = {
            "none": ((1, -2, -3), (2, 0, 3, -1)), "sent": ((1, 0, -2, -3), (2, 0, 3, 0, -1)),
            "always": ((1, 0, -2, 0, -3), (2, 0, 3, 0, -1)),
            "rounds": ((1, -2, 0, -3), (2, 0, 3, -1))}
        for name in NAMES:
            recorder = Recorder(2, rule=name)
            self.assertEqual(recorder.done(*steps), expected[name])
            self.assertEqual(recorder.history, expected[name])
            self.assertEqual(recorder.forced, sum(map(len, expected[name])) - 7)

    def test_what_is_shown_is_made_of_tuples_and_numbers(self):
        recorder = Recorder.read("2 sent: v0 s0 r1.1 s1 r0.2")
        recorder.failed = (0, 1)
        for value in (recorder.history, recorder.steps, recorder.failed, recorder.line,
                      recorder.useless, recorder.history[0], recorder.steps[0]):
            self.assertIs(type(value), tuple)
        for value in (recorder.forced, len(recorder), recorder.save(0), recorder.send(0)):
            self.assertIs(type(value), int)

    def test_properties_cannot_be_assigned(self):
        recorder = Recorder(2)
        for name in ("history", "steps", "forced", "line", "useless", "text"):
            with self.assertRaises(AttributeError):
                setattr(recorder, name, ())

    def test_no_process(self):
        for processes in (1, 2, 6):
            recorder = Recorder(processes, rule="rounds")
            recorder.send(0)
            wrong = [v for v in odd_numbers() if type(v) is not int or v] + [
                processes, -1, 7, 10 ** 29, -10 ** 29]
            for value in wrong:
                for call in (("save", value), ("send", value), ("receive", value, 1)):
                    with self.subTest(call=call):
                        self.assertEqual(kept_at(recorder, call), [("NoProcess", value)])

    def test_the_very_value_is_in_the_error(self):
        recorder, value = Recorder(2), [0]
        recorder.send(0)
        with self.assertRaises(NoProcess) as caught:
            recorder.save(value)
        self.assertIs(caught.exception.value, value)
        with self.assertRaises(NoMessage) as caught:
            recorder.receive(1, value)
        self.assertIs(caught.exception.value, value)

    def test_no_message(self):
        recorder = Recorder(6, rule="sent")
        recorder.done(("send", 0), ("send", 1), ("receive", 2, 2), ("send", 0))
        wrong = [v for v in odd_numbers() if type(v) is not int] + [
            0, -1, -2, 2, 4, 5, 24, 25, 10 ** 29, -10 ** 29]
        for value in wrong:
            self.assertEqual(kept_at(recorder, ("receive", 4, value)), [("NoMessage", value)])

    def test_messages_that_cannot_be_received(self):
        recorder = Recorder(3)
        self.assertEqual(kept_at(recorder, ("receive", 0, 1)), [("NoMessage", 1)])
        recorder.send(0)
        # One's own message, and one that was received, by the receiver and by another process.
        self.assertEqual(kept_at(recorder, ("receive", 0, 1)), [("NoMessage", 1)])
        self.assertEqual(recorder.receive(1, 1), 1)
        calls = [("receive", process, 1) for process in range(3)]
        self.assertEqual(kept_at(recorder, *calls), [("NoMessage", 1)] * 3)
        # A receipt that is taken back, then the sending.
        recorder.undo()
        self.assertEqual(kept_at(recorder, ("receive", 0, 1)), [("NoMessage", 1)])
        self.assertEqual([recorder.receive(2, 1), recorder.undo(), recorder.undo()], [1, 1, 0])
        calls = [("receive", process, 1) for process in range(3)]
        self.assertEqual(kept_at(recorder, *calls), [("NoMessage", 1)] * 3)
        self.assertEqual([recorder.send(2), recorder.receive(0, 1)], [1, 1])


class LimitsTest(unittest.TestCase):
    def test_no_steps_at_all(self):
        for name in NAMES:
            recorder = Recorder(2, rule=name, limit=0)
            calls = [("save", 0), ("send", 9), ("receive", 0, 1), ("receive", [], {}), ("save", None)]
            self.assertEqual(kept_at(recorder, *calls), [("TooManySteps", 0)] * 5)
            self.assertEqual(kept_at(recorder, ("undo",)), [("NothingToUndo",)])

    def test_the_step_behind_the_limit(self):
        for limit in (1, 2, 59, 60):
            recorder = Recorder(2, limit=limit)
            for _ in range(limit):
                self.assertEqual(recorder.save(0), 1)
            calls = [("save", 0), ("send", 0), ("receive", 0, 1), ("save", 2), ("send", "a")]
            self.assertEqual(kept_at(recorder, *calls), [("TooManySteps", limit)] * 5)
            self.assertEqual([recorder.undo(), recorder.send(1)], [limit - 1, 1])
            self.assertEqual(kept_at(recorder, ("send", 1)), [("TooManySteps", limit)])

    def test_the_steps_count_and_not_the_events(self):
        recorder = Recorder(2, rule="always", limit=3)
        recorder.done(("send", 0), ("send", 1), ("receive", 1, 1))
        self.assertEqual(recorder.history, ((1,), (2, 0, -1)))
        self.assertEqual(kept_at(recorder, ("receive", 0, 2)), [("TooManySteps", 3)])

    def test_the_message_behind_the_last_one(self):
        for name in NAMES:
            recorder = Recorder(3, rule=name)
            self.assertEqual([recorder.send(m % 3) for m in range(24)], list(range(1, 25)))
            calls = [("send", 0), ("send", 2), ("send", 3), ("send", None)]
            self.assertEqual(kept_at(recorder, *calls),
                             [("Full",), ("Full",), ("NoProcess", 3), ("NoProcess", None)])
            self.assertEqual([recorder.save(0), recorder.receive(0, 24)], [1, 1])
            self.assertEqual(kept_at(recorder, ("send", 0)), [("Full",)])
            self.assertEqual([recorder.undo() for _ in range(3)], [25, 24, 23])
            self.assertEqual(recorder.send(1), 24)
            self.assertEqual(kept_at(recorder, ("send", 0)), [("Full",)])

    def test_sixty_events_without_saves_that_the_rule_wants(self):
        recorder = Recorder(2)
        for _ in range(60):
            recorder.save(1)
        self.assertEqual(recorder.history, ((), (0,) * 60))
        self.assertEqual(str(recorder), "2 processes, 60 events, 0 forced")
        self.assertEqual(kept_at(recorder, ("save", 1), ("send", 0)), [("TooManySteps", 60)] * 2)

    def filled(self, events):
        """Return a recorder with so many events, and messages to receive, under "always"."""
        recorder = Recorder(3, rule="always")
        for message in range(1, 25):
            recorder.send(0)
        # Each receipt but the first one brings a save with it, and makes two events.
        for message in range(1, 12):
            self.assertEqual(recorder.receive(1, message), 1 if message == 1 else 2)
        while sum(map(len, recorder.history)) < events:
            recorder.save(2)
        self.assertEqual(sum(map(len, recorder.history)), events)
        return recorder

    def test_a_receipt_at_the_end(self):
        # A receipt with a save has room behind 58 events, one without a save behind 59.
        recorder = self.filled(58)
        self.assertEqual(recorder.receive(1, 12), 2)
        self.assertEqual(sum(map(len, recorder.history)), 60)
        recorder = self.filled(59)
        forced = recorder.forced
        self.assertEqual(kept_at(recorder, ("receive", 1, 12)), [("Full",)])
        self.assertEqual(recorder.forced, forced)
        self.assertEqual(recorder.receive(2, 12), 1)
        self.assertEqual(str(recorder), f"3 processes, 60 events, {forced} forced")
        self.assertLess(len(recorder), 60)

    def test_what_the_rule_remembers_behind_a_step_without_room(self):
        recorder = self.filled(59)
        kept_at(recorder, ("receive", 1, 12), ("receive", 1, 12))
        # If the save that the rule wanted had counted, the receipt would now have room.
        self.assertEqual(kept_at(recorder, ("receive", 1, 12)), [("Full",)])
        recorder.undo()
        self.assertEqual(recorder.receive(1, 12), 2)

    def test_the_event_behind_the_last_one(self):
        recorder = self.filled(60)
        calls = [("save", 0), ("send", 0), ("receive", 2, 12), ("receive", 1, 12), ("save", 3),
                 ("receive", 1, 11), ("receive", 0, 12), ("receive", 3, 25)]
        self.assertEqual(kept_at(recorder, *calls), [("Full",)] * 4 + [
            ("NoProcess", 3), ("NoMessage", 11), ("NoMessage", 12), ("NoProcess", 3)])

    def test_rounds_at_the_end(self):
        recorder = Recorder(2, rule="rounds")
        for message in range(1, 25):
            recorder.done(("save", 0), ("send", 0))
        for message in range(1, 6):
            self.assertEqual(recorder.receive(1, message), 2)
        recorder.save(0)
        self.assertEqual(str(recorder), "2 processes, 59 events, 5 forced")
        self.assertEqual(kept_at(recorder, ("receive", 1, 6), ("receive", 1, 24)), [("Full",)] * 2)
        self.assertEqual([recorder.undo(), recorder.receive(1, 24)], [53, 2])
        self.assertEqual(kept_at(recorder, ("receive", 1, 23)), [("Full",)])
        self.assertEqual([recorder.undo(), recorder.save(1), recorder.receive(1, 6)], [53, 1, 1])

    def test_one_process(self):
        recorder = Recorder(1, rule="always")
        self.assertEqual([recorder.send(0), recorder.save(0)], [1, 1])
        self.assertEqual(kept_at(recorder, ("receive", 0, 1), ("save", 1)),
                         [("NoMessage", 1), ("NoProcess", 1)])

    def test_errors_carry_what_they_say(self):
        with self.assertRaises(Full) as caught:
            self.filled(60).save(0)
        self.assertEqual(vars(caught.exception), {})
        with self.assertRaises(NothingToUndo) as caught:
            Recorder(1).undo()
        self.assertEqual(vars(caught.exception), {})


class UndoTest(unittest.TestCase):
    def test_example(self):
        recorder = Recorder(1)
        self.assertEqual([recorder.save(0), recorder.undo(), recorder.history], [1, 0, ((),)])

    def test_nothing_to_undo(self):
        recorder = Recorder(2)
        self.assertEqual(kept_at(recorder, ("undo",), ("undo",)), [("NothingToUndo",)] * 2)
        recorder.save(0)
        recorder.undo()
        self.assertEqual(kept_at(recorder, ("undo",)), [("NothingToUndo",)])

    def test_a_receipt_with_the_save_that_the_rule_wanted(self):
        for name in ("sent", "always", "rounds"):
            recorder = Recorder(2, rule=name)
            recorder.done(("send", 1), ("save", 0), ("send", 0))
            before = seen(recorder)
            for _ in range(3):
                self.assertEqual([recorder.receive(1, 2), recorder.forced], [2, 1])
                self.assertEqual(recorder.history, ((0, 2), (1, 0, -2)))
                self.assertEqual(recorder.undo(), 3)
                self.assertEqual(seen(recorder), before)

    def test_what_the_rule_remembers(self):
        # Without the save the sending counts again; without the sending it does not.
        recorder = Recorder(2, rule="sent")
        recorder.done(("send", 1), ("send", 0), ("save", 0))
        self.assertEqual(recorder.receive(0, 1), 1)
        self.assertEqual([recorder.undo(), recorder.undo(), recorder.receive(0, 1)], [3, 2, 2])
        self.assertEqual([recorder.undo(), recorder.undo(), recorder.receive(0, 1)], [2, 1, 1])

    def test_what_rounds_remembers(self):
        recorder = Recorder(3, rule="rounds")
        recorder.done(("save", 0), ("send", 0), ("receive", 1, 1), ("send", 1))
        self.assertEqual(recorder.receive(2, 2), 2)
        self.assertEqual([recorder.undo(), recorder.undo(), recorder.undo()], [4, 3, 2])
        self.assertEqual([recorder.send(1), recorder.receive(2, 2)], [2, 1])

    def test_the_number_of_a_message_is_given_again(self):
        recorder = Recorder(2)
        self.assertEqual([recorder.send(0), recorder.send(1), recorder.undo(), recorder.send(0)],
                         [1, 2, 1, 2])
        self.assertEqual(recorder.history, ((1, 2), ()))
        self.assertEqual(recorder.receive(1, 2), 1)

    def test_failed_stays(self):
        recorder = Recorder(2)
        recorder.save(1)
        recorder.failed = (1,)
        recorder.save(1)
        self.assertEqual([recorder.undo(), recorder.failed, recorder.line], [1, (1,), (1, 1)])
        self.assertEqual([recorder.undo(), recorder.failed, recorder.line], [0, (1,), (1, 0)])

    def test_all_steps_one_after_the_other(self):
        for seed in range(60):
            processes, steps = random_plan(seed)
            name = NAMES[seed % 4]
            recorder = Recorder(processes, rule=name)
            recorder.done(*steps)
            histories = list(recorder.walk())
            while recorder.steps:
                self.assertEqual(recorder.history, histories.pop())
                self.assertEqual(recorder.undo(), len(recorder.steps))
                self.assertEqual(plain.planned(name, processes, recorder.steps),
                                 (recorder.history, recorder.forced))


class FailedTest(unittest.TestCase):
    def test_example(self):
        recorder = Recorder(2)
        recorder.done(("save", 0), ("send", 0), ("receive", 1, 1))
        found = [recorder.line, recorder.set_failed((0,)), recorder.failed, recorder.steps[0],
                 recorder.useless]
        self.assertEqual(found, [(2, 1), (1, 0), (0,), ("save", 0), ()])

    def test_ascending_tuples(self):
        recorder = Recorder(6)
        for value in ((), (0,), (5,), (0, 5), (1, 2, 4), (0, 1, 2, 3, 4, 5), ()):
            recorder.failed = value
            self.assertEqual(recorder.failed, value)
            expected = tuple(0 if process in value else 1 for process in range(6))
            self.assertEqual(recorder.line, expected)
            self.assertEqual(recorder.set_failed(()), (1,) * 6)
            self.assertEqual([recorder.set_failed(value), recorder.failed], [expected, value])

    def test_other_values(self):
        for processes in (1, 2, 6):
            recorder = Recorder(processes)
            recorder.set_failed((0,))
            before = seen(recorder)
            values = [value for value in odd_values() if value not in ((), (0,), (1,))] + [
                (processes,), (0, processes), (-1,), (-1, 0), (0, 0), (5, 4), (1, 0), (0, 1, 1),
                (False,), (0, True), (False, 1), ("0",), ((0,),), [0], [], {0: 1}, "0", 0,
                (0, [1]), (0, None), (0.0,), (10 ** 29,), (0, 1, 2, 3, 4, 5, 6)]
            for value in values:
                with self.assertRaises(LineError) as caught:
                    recorder.failed = value
                self.assertEqual(type(caught.exception).__name__, "BadProcesses")
                self.assertIs(caught.exception.value, value)
                with self.assertRaises(LineError) as caught:
                    recorder.set_failed(value)
                self.assertEqual(type(caught.exception).__name__, "BadProcesses")
                self.assertIs(caught.exception.value, value)
                self.assertEqual(seen(recorder), before)

    def test_line_and_useless_are_those_of_the_present_history(self):
        recorder = Recorder(2)
        recorder.done(("send", 1), ("receive", 0, 1), ("save", 0), ("send", 0), ("receive", 1, 2))
        self.assertEqual([recorder.useless, recorder.set_failed((0,))], [((0, 1),), (0, 0)])
        recorder.undo()
        self.assertEqual([recorder.useless, recorder.line], [(), (1, 1)])
        recorder.failed = (0, 1)
        self.assertEqual([recorder.line, recorder.failed], [(0, 0), (0, 1)])

    def test_drawn_recorders(self):
        for seed in range(80):
            processes, steps = random_plan(seed)
            recorder = Recorder(processes, rule=NAMES[seed % 4])
            recorder.done(*steps)
            for failed in ((), (0,), tuple(range(processes)), tuple(range(0, processes, 2))):
                expected = fall_back(recorder.history, *failed)
                self.assertEqual([recorder.set_failed(failed), recorder.line], [expected] * 2)
            self.assertEqual(recorder.useless, useless_states(recorder.history))


class CopyTest(unittest.TestCase):
    def test_example(self):
        recorder = Recorder(2, rule="rounds")
        other = recorder.copy()
        self.assertEqual([other.save(1), recorder == other, str(recorder)],
                         [1, False, "2 processes, 0 events, 0 forced"])

    def test_independent(self):
        recorder = Recorder(3, rule="sent", limit=5)
        recorder.done(("send", 0), ("send", 1), ("receive", 0, 2))
        recorder.failed = (1,)
        before, other = seen(recorder), recorder.copy()
        self.assertEqual(seen(other), before)
        other.done(("save", 0), ("send", 0))
        other.failed = ()
        self.assertEqual(seen(recorder), before)
        later = seen(other)
        recorder.undo()
        recorder.failed = (0, 2)
        self.assertEqual(seen(other), later)

    def test_the_limit_goes_with_it(self):
        recorder = Recorder(1, limit=2)
        recorder.save(0)
        other = recorder.copy()
        self.assertEqual([other.save(0), recorder.save(0)], [1, 1])
        self.assertEqual(kept_at(other, ("save", 0)), [("TooManySteps", 2)])

    def test_what_the_rule_remembers_goes_with_it(self):
        for name in ("sent", "always", "rounds"):
            recorder = Recorder(2, rule=name)
            recorder.done(("send", 0), ("save", 1), ("send", 1))
            other = recorder.copy()
            self.assertEqual([recorder.receive(0, 2), other.receive(0, 2), other.forced], [2, 2, 1])
            third = other.copy()
            self.assertEqual([other.undo(), third.forced, third.undo(), third.forced], [3, 1, 3, 0])
            self.assertEqual([third.receive(0, 2), third.save(0), third.forced], [2, 1, 1])


class EqualTest(unittest.TestCase):
    def test_the_steps_and_limits_do_not_count(self):
        one, other = Recorder(2), Recorder(2, limit=7)
        one.done(("save", 0), ("send", 1))
        other.done(("send", 1), ("save", 0))
        self.assertNotEqual(one.steps, other.steps)
        self.assertTrue(one == other)
        self.assertFalse(one != other)

    def test_a_save_by_itself_and_one_that_the_rule_wanted(self):
        one, other = Recorder(2, rule="sent"), Recorder(2, rule="sent")
        one.done(("send", 0), ("send", 1), ("receive", 0, 2))
        other.done(("send", 0), ("send", 1), ("save", 0), ("receive", 0, 2))
        self.assertEqual((one.forced, other.forced), (1, 0))
        self.assertTrue(one == other)

    def test_the_rule_the_processes_and_the_failed_ones_count(self):
        for name in NAMES:
            for other in NAMES:
                self.assertEqual(Recorder(2, rule=name) == Recorder(2, rule=other), name == other)
        self.assertTrue(Recorder(2) != Recorder(3))
        one, other = Recorder(2), Recorder(2)
        one.failed = (0,)
        self.assertTrue(one != other)
        other.failed = (1,)
        self.assertTrue(one != other)
        other.failed = (0,)
        self.assertTrue(one == other)
        one.save(0)
        self.assertTrue(one != other)

    def test_nothing_else_is_equal(self):
        recorder = Recorder(1)
        for value in odd_values() + [recorder.history, recorder.text, str(recorder), Recorder, [recorder]]:
            self.assertIs(recorder == value, False)
            self.assertIs(value == recorder, False)
            self.assertIs(recorder != value, True)
        self.assertIs(recorder == recorder.copy(), True)

    def test_the_words_of_str(self):
        recorder = Recorder(1)
        self.assertEqual(str(recorder), "1 processes, 0 events, 0 forced")
        recorder.save(0)
        self.assertEqual(str(recorder), "1 processes, 1 events, 0 forced")
        self.assertEqual(f"{Recorder(6, rule='always')}", "6 processes, 0 events, 0 forced")


if __name__ == "__main__":
    unittest.main()

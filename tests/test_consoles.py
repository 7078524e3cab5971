"""The console: its commands, answers and transcript (point 11)."""

import random
import unittest

from savelines.consoles import Console
from savelines.errors import LineError, NoMessage, NoProcess
from savelines.histories import state_numbers
from savelines.recorders import Recorder
from savelines.texts import history_text, line_text
from savelines.zigzags import line_through
from tests.samples import odd_values, random_plan
from tests.test_recorders import NAMES, seen

USELESS = "2 none: s1 r0.1 v0 s0 r1.2"
UNKNOWN = "unknown command"


def console_with(text="2 none:", limit=60):
    """Return a console on a new recorder of this text."""
    return Console(Recorder.read(text, limit=limit))


def answers(console, *lines):
    """Return what the console answers to the lines."""
    return [console.execute(line) for line in lines]


class CommandsTest(unittest.TestCase):
    def test_examples(self):
        self.assertEqual(answers(console_with(), "send 0", "receive 1 1", "history"),
                         ["1", "1", "+1 | -1"])
        self.assertEqual(answers(console_with(USELESS), "useless", "fail 0", "line 0.1", "line 1.1"),
                         ["0.1", "0,0", "error NotTogether", "2,1"])

    def test_steps(self):
        console = console_with("2 sent:")
        self.assertEqual(answers(console, "send 1", "save 0", "send 0", "receive 0 1", "undo", "forced"),
                         ["1", "1", "2", "2", "3", "0"])
        self.assertEqual(answers(console, "receive 0 1", "forced", "history", "text"),
                         ["2", "1", ". +2 . -1 | +1", "2 sent: s1 v0 s0 r0.1"])
        self.assertEqual(answers(console, "undo", "undo", "undo", "undo", "history", "text", "forced"),
                         ["3", "2", "1", "0", "_ | _", "2 sent:", "0"])

    def test_answers_are_texts(self):
        console = console_with("2 sent: s1 s0")
        for line in ("save 0", "send 0", "receive 0 1", "undo", "history", "text", "forced", "fail",
                     "fail 0", "useless", "line 0.0", "line 9.9", "undone", None, 7, [], ""):
            self.assertIs(type(console.execute(line)), str)

    def test_the_console_works_on_this_very_recorder(self):
        recorder = Recorder(2, rule="rounds")
        console = Console(recorder)
        answers(console, "save 0", "send 0", "receive 1 1", "fail 1")
        self.assertEqual([recorder.text, recorder.failed, recorder.forced],
                         ["2 rounds: v0 s0 r1.1", (1,), 1])
        recorder.undo()
        recorder.send(1)
        recorder.failed = ()
        self.assertEqual(answers(console, "text", "history", "fail", "receive 0 2"),
                         ["2 rounds: v0 s0 s1", ". +1 | +2", "2,1", "1"])

    def test_fail(self):
        recorder = Recorder.read("3 none: v0 s0 r1.1 v2")
        console = Console(recorder)
        for line, answer, failed in (
                ("fail", "2,1,2", ()), ("fail 0", "1,0,2", (0,)), ("fail 2", "2,1,1", (2,)),
                ("fail 0 2", "1,0,1", (0, 2)), ("fail 0 1 2", "1,0,1", (0, 1, 2)),
                ("fail 1", "2,0,2", (1,)), ("fail", "2,1,2", ())):
            self.assertEqual((console.execute(line), recorder.failed), (answer, failed))

    def test_fail_in_the_order_given(self):
        recorder = Recorder(3)
        console = Console(recorder)
        console.execute("fail 1")
        before = seen(recorder)
        for line in ("fail 1 0", "fail 0 0", "fail 3", "fail 0 1 2 3", "fail 999999", "fail 2 1 0"):
            self.assertEqual(console.execute(line), "error BadProcesses")
            self.assertEqual(seen(recorder), before)

    def test_useless(self):
        self.assertEqual(answers(console_with(), "useless"), ["none"])
        self.assertEqual(answers(console_with(USELESS), "undo", "useless"), ["4", "none"])
        recorder = Recorder.read(USELESS + " v1 s1 r0.3 v0 s0 r1.4")
        self.assertEqual([recorder.useless, Console(recorder).execute("useless")],
                         [((0, 1), (0, 2), (1, 1)), "0.1 0.2 1.1"])

    def test_line(self):
        console = console_with("2 none: s0 s1 v0 r1.1 r0.2 v1")
        self.assertEqual(answers(console, "history", "line 0.2", "line 0.0 1.0", "line 1.0 0.0"),
                         ["+1 . -2 | +2 -1 .", "2,1", "0,0", "0,0"])
        self.assertEqual(answers(console, "line 1.2", "line 0.1 1.1", "line 0.1 0.1"),
                         ["1,2", "1,1", "1,0"])
        self.assertEqual(answers(console, "line 0.1 0.2", "line 1.0 1.2 1.0", "line 0.2 1.0"),
                         ["error TwoStates", "error TwoStates", "error NotTogether"])

    def test_no_state(self):
        console = console_with("2 none: s0 s1 v0 r1.1 r0.2 v1")
        for words in ("0.3", "1.3", "2.0", "0.999999", "999999.0", "999999.999999", "0.0 2.0",
                      "0.1 0.2 0.3", "0.2 1.0 5.0", "0.3 0.2", "0.3 0.3"):
            self.assertEqual(console.execute("line " + words), "error NoState", words)
        self.assertEqual(answers(console_with("1 none:"), "line 0.0", "line 0.1", "line 0.2"),
                         ["0", "1", "error NoState"])

    def test_a_state_that_is_taken_back(self):
        console = console_with("1 none: v0")
        self.assertEqual(answers(console, "line 0.2", "undo", "line 0.2", "line 0.1"),
                         ["2", "0", "error NoState", "1"])


class ErrorsTest(unittest.TestCase):
    def test_each_error(self):
        for text, limit, line, error in (
                ("2 none: v0", 1, "save 0", "TooManySteps"), ("2 none:", 0, "send 9", "TooManySteps"),
                ("2 none:", 0, "receive 0 1", "TooManySteps"), ("2 none:", 0, "undo", "NothingToUndo"),
                ("2 none:", 60, "save 2", "NoProcess"), ("2 none:", 60, "send 999999", "NoProcess"),
                ("2 none:", 60, "receive 2 1", "NoProcess"), ("2 none:", 60, "receive 1 1", "NoMessage"),
                ("2 none: s1", 60, "receive 1 1", "NoMessage"), ("2 none:", 60, "undo", "NothingToUndo"),
                ("2 none: s1", 60, "receive 0 0", "NoMessage"),
                ("2 none:" + " s0" * 24, 60, "send 1", "Full"),
                ("2 none:", 60, "fail 2", "BadProcesses"), ("2 none:", 60, "line 0.0 0.1", "TwoStates"),
                (USELESS, 60, "line 0.1", "NotTogether"), (USELESS, 60, "line 2.0", "NoState")):
            recorder = Recorder.read(text, limit=limit)
            console, before = Console(recorder), seen(recorder)
            self.assertEqual(console.execute(line), "error " + error)
            self.assertEqual(seen(recorder), before)
            self.assertEqual(console.transcript(), ((line, "error " + error),))

    def test_no_room_for_an_event(self):
        text = "2 always:" + " s0" * 24 + "".join(f" r1.{m}" for m in range(1, 18))
        console = console_with(text + " v0 v0 v0")
        self.assertEqual(answers(console, "save 0", "receive 1 18", "undo", "receive 1 18"),
                         ["error Full", "error Full", "43", "error Full"])
        self.assertEqual(answers(console, "undo", "receive 1 18", "save 1"), ["42", "2", "error Full"])


class UnknownTest(unittest.TestCase):
    def test_lines(self):
        recorder = Recorder.read(USELESS)
        console, before = Console(recorder), seen(recorder)
        lines = [
            "", " ", "\n", "x", "Save 0", "SAVE 0", "save", "save 0 0", "save  0", " save 0", "save 0 ",
            "save 00", "save 01", "save -1", "save +1", "save 1_0", "save 0x1", "save a", "save 0.0",
            "save 1234567", "save 0000000", "save\t0", "save 0\n", "save\n0", "save0", "saves 0",
            "save 1.", "save \u0661", "save \u00b2", "save " + "1" * 1900, "save " + "1" * 6000,
            "send", "send 0 1", "send a", "send  0", "receive", "receive 0", "receive 0 1 2",
            "receive 0  1", "receive 0.1", "receive 0 -1", "receive 0 01", "receive x 1",
            "undo ", "undo 1", " undo", "undo\n", "Undo", "history 0", "history ", "text 1", "text ",
            "forced 0", "forced ", "useless 0", "useless ", "useless none", "fail ", "fail  0",
            "fail 0 ", "fail a", "fail 0 a", "fail -1", "fail 00", "fail 1234567", "fail 0,1", "fail 0.1",
            "line", "line ", "line 0", "line 0 1", "line 0.", "line .0", "line .", "line 0.0.0",
            "line 0.0 ", "line  0.0", "line 0.0  1.0", "line 00.0", "line 0.00", "line 0,0",
            "line 0.-1", "line a.b", "line 1234567.0", "line 0.1234567", "line 9.9 x", "line 9.9 0",
            "line 0.0 0.1 0", "execute", "transcript", "done", "copy", "walk", "read", "failed",
            "steps", "line_text", "none", "unknown command", "error", "help", "NoState", "save,0",
        ]
        for line in lines:
            self.assertEqual(console.execute(line), UNKNOWN, line)
            self.assertEqual(console.transcript()[-1], (line, UNKNOWN))
        self.assertEqual(seen(recorder), before)

    def test_other_values(self):
        recorder = Recorder.read(USELESS)
        console, before = Console(recorder), seen(recorder)
        values = [value for value in odd_values() if value != "history"] + [
            b"undo", ["undo"], ("undo",), {"undo": 1}, ("save", 0), ["save", "0"], Recorder(1),
            console, recorder, ("save 0",), [["history"]], 0, 1]
        for value in values:
            held = repr(value)
            self.assertEqual(console.execute(value), UNKNOWN)
            line = value if type(value) is str else None
            self.assertEqual(console.transcript()[-1], (line, UNKNOWN))
            self.assertEqual(repr(value), held)
        self.assertEqual(seen(recorder), before)


class TranscriptTest(unittest.TestCase):
    def test_example(self):
        console = Console(Recorder(1))
        console.execute(7)
        self.assertEqual(console.transcript(), ((None, UNKNOWN),))

    def test_at_first(self):
        self.assertEqual(console_with().transcript(), ())

    def test_all_kinds_of_answers(self):
        console = console_with()
        answers(console, "save 0", "fail 1", None, "save", "undo", "undo", ["save 0"], "text")
        self.assertEqual(console.transcript(), (
            ("save 0", "1"), ("fail 1", "2,0"), (None, UNKNOWN), ("save", UNKNOWN), ("undo", "0"),
            ("undo", "error NothingToUndo"), (None, UNKNOWN), ("text", "2 none:")))

    def test_the_last_twenty(self):
        console, pairs = console_with("1 none:", 30), []
        for count in range(1, 51):
            line = "save 0" if count % 5 else count
            answer = console.execute(line)
            pairs.append((line if count % 5 else None, answer))
            self.assertEqual(console.transcript(), tuple(pairs[-20:]))
            self.assertEqual(len(console.transcript()), min(count, 20))
        self.assertIn(("save 0", "error TooManySteps"), console.transcript())

    def test_what_was_returned_does_not_change(self):
        console = console_with()
        console.execute("save 0")
        held = console.transcript()
        self.assertEqual([type(held), type(held[0])], [tuple, tuple])
        console.execute("save 1")
        self.assertEqual([held, len(console.transcript())], [(("save 0", "1"),), 2])
        self.assertEqual(console.transcript(), console.transcript())

    def test_two_consoles_on_one_recorder(self):
        recorder = Recorder(2)
        one, other = Console(recorder), Console(recorder)
        self.assertEqual([one.execute("send 0"), other.execute("receive 1 1"), one.execute("history")],
                         ["1", "1", "+1 | -1"])
        self.assertEqual(one.transcript(), (("send 0", "1"), ("history", "+1 | -1")))
        self.assertEqual(other.transcript(), (("receive 1 1", "1"),))

    def test_a_new_console_on_a_used_recorder(self):
        recorder = Recorder(1)
        Console(recorder).execute("save 0")
        self.assertEqual(Console(recorder).transcript(), ())


class DrawnTest(unittest.TestCase):
    def test_like_the_recorder_itself(self):
        kinds = set()
        for seed in range(120):
            rng = random.Random(seed)
            processes, steps = random_plan(seed)
            done = steps[:rng.randint(0, len(steps))]
            limit = min(60, len(done) + rng.choice([0, 3, 60, 60]))
            recorder = Recorder(processes, rule=NAMES[seed % 4], limit=limit)
            recorder.done(*done)
            console, other = Console(recorder), recorder.copy()
            for _ in range(40):
                line = self.drawn_line(rng, processes)
                answer = self.answer_of(other, line)
                kinds.add(answer.partition(" ")[2] if answer.startswith("error") else answer[:1])
                self.assertEqual(console.execute(line), answer, (line, other.text))
                self.assertEqual(seen(recorder), seen(other))
                self.assertEqual(console.transcript()[-1], (line, answer))
        self.assertLessEqual({"TooManySteps", "NoProcess", "NoMessage", "Full", "NothingToUndo",
                              "BadProcesses", "TwoStates", "NotTogether", "NoState"}, kinds)

    def drawn_line(self, rng, processes):
        """Return a line that is a command."""
        word = rng.choice(["save", "send", "receive", "receive", "undo", "history", "text", "forced",
                           "fail", "useless", "line", "line", "send", "undo"])
        number = lambda most: str(rng.randint(0, most))
        words = {
            "save": [number(processes)], "send": [number(processes)],
            "receive": [number(processes), number(24)],
            "fail": [number(processes) for _ in range(rng.randint(0, 2))],
            "line": [number(processes - (rng.random() < 0.9)) + "." + number(4)
                     for _ in range(rng.randint(1, 3))],
        }.get(word, [])
        return " ".join([word, *words])

    def answer_of(self, recorder, line):
        """Return the answer to a line that is a command, by calls of the recorder."""
        word, *words = line.split(" ")
        try:
            if word in ("save", "send", "receive", "undo"):
                return str(getattr(recorder, word)(*map(int, words)))
            if word == "fail":
                return line_text(recorder.set_failed(tuple(map(int, words))))
            if word == "line":
                return self.line_answer(recorder.history, words)
        except (LineError, NoProcess, NoMessage) as error:
            return "error " + type(error).__name__
        return {
            "history": history_text(recorder.history), "text": recorder.text,
            "forced": str(recorder.forced),
            "useless": " ".join(f"{p}.{k}" for p, k in recorder.useless) or "none",
        }[word]

    def line_answer(self, history, words):
        """Return the answer to a command for the least line with the states of these words."""
        states = [tuple(map(int, word.split("."))) for word in words]
        last = dict(enumerate(state_numbers(history)))
        if any(number > last.get(process, -1) for process, number in states):
            return "error NoState"
        return line_text(line_through(history, *states))


if __name__ == "__main__":
    unittest.main()

"""Several steps at once, the walk through the histories, and the texts of recorders (point 10)."""

import random
import unittest

from savelines.errors import BadStep, LineError, Refused
from savelines.recorders import Recorder
from tests import plain
from tests.samples import odd_values, raised, random_plan
from tests.test_recorders import NAMES, seen

STEPS = (("send", 0), ("save", 1), ("send", 1), ("receive", 0, 2), ("receive", 1, 1))


def odd_steps():
    """Return values that are no step whatever stands behind their word."""
    return odd_values() + [
        ["send", 0], ["save", 0], ("send",), ("save",), ("receive",), ("receive", 0), ("send", 0, 1),
        ("save", 0, 1), ("receive", 0, 1, 2), ("Send", 0), ("undo", 0), ("undo",), ("send ", 0),
        ("sen", 0), ("saves", 0), ("", 0), (None, 0), (("save", 0),), (["save"], 0), (True, 0),
        ({"save": 0}, 0), ("fail", 0), "save", ("save0",), (0, "save"), ("save", "save", 0),
        Recorder(1), ((), ()), (Recorder(1), 0), (0, 0, 0), ([], [], []),
    ]


class DoneTest(unittest.TestCase):
    def test_examples(self):
        recorder = Recorder(2)
        found = [recorder.done(("send", 0), ("receive", 1, 1), keep=False), len(recorder),
                 recorder.history]
        self.assertEqual(found, [((1,), (-1,)), 0, ((), ())])
        self.assertEqual(raised(Recorder(2).done, ("send", 0), ("receive", 0, 1)), ("Refused", 1))

    def test_no_steps(self):
        for keep in (True, False):
            recorder = Recorder(2, rule="always")
            self.assertEqual(recorder.done(keep=keep), ((), ()))
            recorder.done(*STEPS)
            before = seen(recorder)
            self.assertEqual(recorder.done(keep=keep), recorder.history)
            self.assertEqual(seen(recorder), before)

    def test_keep(self):
        for name in NAMES:
            recorder, other = Recorder(2, rule=name), Recorder(2, rule=name)
            before = seen(recorder)
            history = recorder.done(*STEPS, keep=False)
            self.assertEqual(seen(recorder), before)
            self.assertEqual([other.done(*STEPS[:2]), other.done(*STEPS[2:], keep=True)],
                             [((1,), (0,)), history])
            self.assertEqual([other.history, other.steps], [history, STEPS])
            self.assertEqual(history, plain.planned(name, 2, STEPS)[0])

    def test_what_the_rule_remembers_without_keep(self):
        for name, events in (("none", 1), ("sent", 2), ("always", 2), ("rounds", 1)):
            recorder = Recorder(2, rule=name)
            recorder.done(("send", 0), ("save", 1), ("send", 1))
            # The saves and the greater note of these steps are forgotten again.
            recorder.done(("save", 0), ("save", 0), ("receive", 0, 2), keep=False)
            self.assertEqual([recorder.forced, recorder.receive(1, 1)], [0, events])
            recorder.done(("send", 1), keep=False)
            self.assertEqual(recorder.send(1), 3)

    def test_failed_does_not_matter(self):
        recorder = Recorder(2)
        recorder.failed = (1,)
        recorder.done(("save", 0), keep=False)
        recorder.done(("save", 0))
        raised(recorder.done, ("save", 5))
        self.assertEqual([recorder.failed, recorder.line], [(1,), (2, 0)])

    def test_bad_step(self):
        for value in odd_steps():
            for keep in (True, False):
                recorder = Recorder(2, rule="sent")
                recorder.done(*STEPS)
                before = seen(recorder)
                for steps, index in (((value,), 0), ((("save", 0), value), 1),
                                     ((("save", 0), ("save", 1), value, value), 2)):
                    with self.assertRaises(BadStep) as caught:
                        recorder.done(*steps, keep=keep)
                    self.assertEqual(caught.exception.index, index)
                    self.assertEqual(seen(recorder), before)

    def test_bad_step_before_refused(self):
        recorder = Recorder(2, limit=0)
        self.assertEqual(raised(recorder.done, ("save", 0), ("receive", 0, 1), ["save", 0]),
                         ("BadStep", 2))
        self.assertEqual(raised(recorder.done, ("save", 9), ("save",), keep=False), ("BadStep", 1))

    def test_refused(self):
        cases = [
            (("NoProcess", None), ("save", None)), (("NoProcess", True), ("send", True)),
            (("NoProcess", [0]), ("receive", [0], 1)), (("NoProcess", 2), ("save", 2)),
            (("NoMessage", {}), ("receive", 0, {})), (("NoMessage", 3), ("receive", 0, 3)),
            (("NoMessage", True), ("receive", 1, True)), (("NoMessage", 2), ("receive", 0, 2)),
            (("NoProcess", (("save", 0),)), ("send", (("save", 0),))),
        ]
        for error, step in cases:
            for keep in (True, False):
                recorder = Recorder(2, rule="sent")
                recorder.done(*STEPS)
                before = seen(recorder)
                for steps, index in (((step,), 0), ((("save", 0), ("save", 1), step, step), 2)):
                    with self.assertRaises(Refused) as caught:
                        recorder.done(*steps, keep=keep)
                    self.assertEqual(caught.exception.index, index)
                    cause = caught.exception.__cause__
                    self.assertEqual((type(cause).__name__, *vars(cause).values()), error)
                    self.assertEqual(seen(recorder), before)

    def test_refused_for_want_of_room(self):
        recorder = Recorder(2, limit=3)
        for keep in (True, False):
            with self.assertRaises(Refused) as caught:
                recorder.done(*[("send", 0)] * 4, keep=keep)
            self.assertEqual(caught.exception.index, 3)
            self.assertEqual(caught.exception.__cause__.limit, 3)
            self.assertEqual(len(recorder), 0)
        recorder = Recorder(2, rule="rounds")
        with self.assertRaises(Refused) as caught:
            recorder.done(*[("save", 1)] * 30, *[("send", 0)] * 25)
        self.assertEqual(caught.exception.index, 54)
        self.assertEqual(type(caught.exception.__cause__).__name__, "Full")
        self.assertEqual(recorder.history, ((), ()))

    def test_a_message_of_the_same_steps(self):
        recorder = Recorder(2)
        steps = (("send", 0), ("receive", 1, 1), ("receive", 1, 1))
        self.assertEqual(raised(recorder.done, *steps), ("Refused", 2))
        # The sending is taken back as well.
        self.assertEqual(raised(recorder.done, *steps[1:]), ("Refused", 0))
        self.assertEqual([recorder.done(*steps[:2]), recorder.send(1)], [((1,), (-1,)), 2])

    def test_later_changes_to_an_argument(self):
        recorder, value = Recorder(2), [0]
        raised(recorder.done, ("save", value))
        value[0] = 1
        self.assertEqual(seen(recorder), seen(Recorder(2)))

    def test_drawn_steps(self):
        for seed in range(60):
            processes, steps = random_plan(seed)
            name, cut = NAMES[seed % 4], random.Random(seed).randint(0, len(steps))
            recorder = Recorder(processes, rule=name)
            recorder.done(*steps[:cut])
            before = seen(recorder)
            history = recorder.done(*steps[cut:], keep=False)
            self.assertEqual(seen(recorder), before)
            self.assertEqual(recorder.done(*steps[cut:]), history)
            self.assertEqual((history, recorder.forced), plain.planned(name, processes, steps))


class WalkTest(unittest.TestCase):
    def test_example(self):
        recorder = Recorder(1)
        self.assertEqual([recorder.save(0), list(recorder.walk())], [1, [((),), ((0,),)]])

    def test_a_save_that_the_rule_wants_comes_with_its_receipt(self):
        recorder = Recorder(2, rule="sent")
        recorder.done(("send", 0), ("send", 1), ("receive", 0, 2))
        self.assertEqual(list(recorder.walk()), [
            ((), ()), ((1,), ()), ((1,), (2,)), ((1, 0, -2), (2,))])

    def test_the_histories_of_the_first_steps(self):
        for seed in range(60):
            processes, steps = random_plan(seed)
            name = NAMES[seed % 4]
            recorder = Recorder(processes, rule=name)
            recorder.done(*steps)
            before = seen(recorder)
            expected = [plain.planned(name, processes, steps[:k])[0] for k in range(len(steps) + 1)]
            self.assertEqual([list(recorder.walk()), list(recorder.walk())], [expected, expected])
            self.assertEqual(seen(recorder), before)

    def test_what_is_done_while_it_goes_on(self):
        recorder = Recorder(2, rule="always")
        recorder.done(*STEPS)
        expected = list(recorder.walk())
        self.assertEqual(len(expected), 6)
        for change in (lambda: recorder.save(0), recorder.undo, lambda: recorder.done(("save", 1)),
                       lambda: recorder.set_failed((0,)), lambda: raised(recorder.save, 9),
                       lambda: recorder.done(("save", 1), keep=False)):
            expected, found = list(recorder.walk()), []
            for history in recorder.walk():
                found.append(history)
                if len(found) < 8:
                    change()
            self.assertEqual(found, expected)

    def test_the_steps_that_stand_when_the_iteration_begins(self):
        recorder = Recorder(1)
        walk = recorder.walk()
        recorder.save(0)
        self.assertEqual(next(walk), ((),))
        recorder.undo()
        self.assertEqual(list(walk), [((0,),)])

    def test_two_at_once(self):
        recorder = Recorder(1)
        recorder.save(0)
        one = recorder.walk()
        next(one)
        recorder.save(0)
        self.assertEqual(list(zip(recorder.walk(), recorder.walk())),
                         [(((0,) * k,),) * 2 for k in range(3)])
        self.assertEqual(list(one), [((0,),)])


class TextTest(unittest.TestCase):
    def test_example(self):
        recorder = Recorder.read("2 rounds: v0 s0 r1.1")
        self.assertEqual([recorder.history, recorder.text],
                         [((0, 1), (0, -1)), "2 rounds: v0 s0 r1.1"])

    def test_texts(self):
        recorder = Recorder(6, rule="sent")
        self.assertEqual(recorder.text, "6 sent:")
        recorder.done(*[("send", 5)] * 12)
        recorder.done(("receive", 0, 12), ("save", 3), ("receive", 4, 1))
        self.assertEqual(recorder.text, "6 sent:" + " s5" * 12 + " r0.12 v3 r4.1")
        recorder.undo()
        self.assertEqual(recorder.text, "6 sent:" + " s5" * 12 + " r0.12 v3")

    def test_there_and_back(self):
        for seed in range(100):
            processes, steps = random_plan(seed)
            for name in NAMES:
                recorder = Recorder(processes, rule=name)
                recorder.done(*steps)
                text = recorder.text
                self.assertEqual(text, plain.steps_text(name, processes, steps))
                other = Recorder.read(text)
                self.assertTrue(other == recorder)
                self.assertEqual(seen(other), seen(recorder))

    def test_a_new_recorder_each_time(self):
        one, other = Recorder.read("1 none: v0"), Recorder.read("1 none: v0")
        one.save(0)
        self.assertEqual([one.text, other.text], ["1 none: v0 v0", "1 none: v0"])

    def test_the_limit_and_the_failed(self):
        recorder = Recorder.read("2 none: v0 v0", limit=3)
        self.assertEqual([recorder.failed, recorder.save(1)], [(), 1])
        self.assertEqual(raised(recorder.save, 1), ("TooManySteps", 3))
        self.assertEqual(len(Recorder.read("2 none: v0 v0", limit=2)), 2)
        self.assertEqual(raised(Recorder.read, "2 none: v0 v0", limit=1), ("BadText", 3))
        self.assertEqual(raised(Recorder.read, "2 none: v0 v0", limit=0), ("BadText", 2))
        self.assertEqual(Recorder.read("2 none:", limit=0).history, ((), ()))
        recorder = Recorder.read("1 none:" + " v0" * 60)
        self.assertEqual([len(recorder), raised(recorder.save, 0)], [60, ("TooManySteps", 60)])
        self.assertEqual(raised(Recorder.read, "1 none:" + " v0" * 61), ("BadText", 62))

    def test_no_room(self):
        self.assertEqual(raised(Recorder.read, "2 none:" + " s0" * 25), ("BadText", 26))
        text = "2 always:" + " s0" * 24 + "".join(f" r1.{m}" for m in range(1, 20))
        self.assertEqual(raised(Recorder.read, text), ("BadText", 44))
        self.assertEqual(Recorder.read(text[:-6]).forced, 17)

    def test_no_text(self):
        for value in odd_values() + [b"1 none:", ["1 none:"], ("1 none:",), Recorder(1)]:
            if type(value) is not str:
                with self.assertRaises(LineError) as caught:
                    Recorder.read(value)
                self.assertEqual(vars(caught.exception), {"index": None}, value)

    def test_wrong_texts(self):
        self.assertEqual(raised(Recorder.read, "2 none: s0 r0.1"), ("BadText", 3))
        for text, index in (
                ("", 0), (" ", 0), ("  ", 0), ("0 none:", 0), ("7 none:", 0), ("01 none:", 0),
                ("-1 none:", 0), ("+1 none:", 0), ("1_0 none:", 0), ("x none:", 0), (" 1 none:", 0),
                ("\n1 none:", 0), ("1: none", 0), ("none: 1", 0), ("11 none:", 0), ("1.0 none:", 0),
                ("1" * 1900 + " none:", 0), ("9" * 5000, 0), ("0", 0), ("x", 0),
                ("1", 1), ("6", 1), ("2 ", 1), ("2 none", 1), ("2 none :", 1), ("2 None:", 1),
                ("2 :", 1), ("2 sent::", 1), ("2  none:", 1), ("2 non:", 1), ("2 none:\n", 1),
                ("2 rounds:v0", 1), ("2 none;", 1), ("2 v0", 1), ("1\tnone:", 0),
                ("2 none: ", 2), ("2 none:  v0", 2), ("2 none: v0 ", 3), ("2 none: v0  v0", 3),
                ("2 none: v", 2), ("2 none: v2", 2), ("2 none: v00", 2), ("2 none: v01", 2),
                ("2 none: v-1", 2), ("2 none: v+1", 2), ("2 none: v0.1", 2), ("2 none: v0.", 2),
                ("2 none: s", 2), ("2 none: s2", 2), ("2 none: s0 s0.1", 3), ("2 none: S0", 2),
                ("2 none: s0 r", 3), ("2 none: s0 r1", 3), ("2 none: s0 r1.", 3),
                ("2 none: s0 r.1", 3), ("2 none: s0 r1.1.", 3), ("2 none: s0 r1.1.1", 3),
                ("2 none: s0 r1.01", 3), ("2 none: s0 r01.1", 3), ("2 none: s0 r1.2", 3),
                ("2 none: s0 r1.0", 3), ("2 none: s0 r2.1", 3), ("2 none: s0 r1,1", 3),
                ("2 none: s0 r1.-1", 3), ("2 none: s0 r1.+1", 3), ("2 none: s0 r1.1_", 3),
                ("2 none: s0 r1.1 r1.1", 4), ("2 none: s0 r1.1 r0.1", 4), ("2 none: r1.1 s0", 2),
                ("2 none: s0 x1.1", 3), ("2 none: s0 1.1", 3), ("2 none: s0 1", 3),
                ("2 none: v0\n", 2), ("2 none: v0\nv0", 2), ("2 none: v" + "1" * 1900, 2),
                ("2 none: v" + "0" * 5000, 2), ("2 none: s0 r1." + "1" * 5000, 3),
                ("2 none: v\u0661", 2), ("2 none: v\u00b2", 2), ("\u0661 none:", 0)):
            self.assertEqual(raised(Recorder.read, text), ("BadText", index), text)

    def test_texts_with_a_word_changed(self):
        rng = random.Random(1)
        others = ["", "v0", "s0", "s1", "r1.1", "r0.2", "r5.24", "v5", "v6", "none:", "sent:", "1",
                  "2", "6", "7", "r1", "v1.1", "x", "r0.1", "r0.0", "v01", "|", "r1.1.1"]
        wrong = 0
        for seed in range(300):
            processes, steps = random_plan(seed, 20)
            words = plain.steps_text(NAMES[seed % 4], processes, steps).split(" ")
            for _ in range(rng.randint(1, 2)):
                words[rng.randrange(len(words))] = rng.choice(others)
            index = self.wrong_word(words)
            if index is None:
                self.assertEqual(Recorder.read(" ".join(words)).text, " ".join(words))
            else:
                wrong += 1
                self.assertEqual(raised(Recorder.read, " ".join(words)), ("BadText", index), words)
        self.assertGreater(wrong, 100)
        self.assertLess(wrong, 290)

    def wrong_word(self, words):
        """Return the index of the first word that is wrong, or None."""
        if words[0] not in ("1", "2", "3", "4", "5", "6"):
            return 0
        if len(words) == 1 or words[1] not in [name + ":" for name in NAMES]:
            return 1
        done = ()
        for index, word in enumerate(words[2:], start=2):
            number = [str(k) for k in range(30)]
            process, _, message = word[1:].partition(".")
            if word[:1] in ("v", "s") and word[1:] in number:
                step = ({"v": "save", "s": "send"}[word[0]], int(process))
            elif word[:1] == "r" and process in number and message in number:
                step = ("receive", int(process), int(message))
            else:
                return index
            if isinstance(plain.answer(words[1][:-1], int(words[0]), 60, done, step), tuple):
                return index
            done += (step,)
        return None


if __name__ == "__main__":
    unittest.main()

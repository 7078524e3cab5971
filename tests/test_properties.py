"""What properties reach is of the form that LANGUAGE.md asks (L5 Properties)."""

import copy
import pathlib
import unittest

from savelines.histories import all_states
from savelines.lines import all_lines
from savelines.recorders import Recorder
from tests.property_form import Package

PACKAGE = pathlib.Path(__file__).resolve().parent.parent / "savelines"
HELD = "class Bad(ValueError):\n    def __init__(self, index):\n        self.index = index\n"


def box_with(body, rest=""):
    """Return the text of a class with one property that has this body."""
    return f"class Box:\n    @property\n    def many(self):\n        {body}\n\n{rest}"


class PropertyFormTest(unittest.TestCase):
    def setUp(self):
        self.package = Package([path.read_text("utf-8") for path in sorted(PACKAGE.glob("*.py"))])

    def test_package(self):
        self.assertEqual(self.package.faults(), [])

    def test_all_properties_are_looked_at(self):
        names = sorted({root.name for root in self.package.roots()})
        self.assertEqual(names, [
            "__eq__", "__len__", "__str__", "failed", "forced", "history", "line", "steps", "text",
            "useless"])

    def test_the_way_to_what_happened_is_looked_at(self):
        for name in ("line", "useless"):
            root, = self.package.properties[name]
            reached = [node.name for node in self.package.reached(root)]
            self.assertIn("happened_at", reached)
            self.assertIn("trips_of", reached)

    def test_names_that_errors_hold_stay(self):
        self.assertLessEqual({"index", "event", "value", "limit"}, self.package.attributes)


class FaultsTest(unittest.TestCase):
    def check(self, texts, expected):
        self.assertEqual(Package(texts).faults(), expected)

    def test_call_by_the_name_of_an_attribute(self):
        text = box_with("return found(self.rows)", "def found(row):\n    return row.index(1)\n")
        self.check([text, HELD], [("many", "found", "row.index(1)")])
        self.check([text], [])

    def test_call_of_what_is_handed_or_held(self):
        text = box_with("return far(self.rows)", "def far(step):\n    return step(1)\n")
        self.check([text], [("many", "far", "step(1)")])
        self.check([box_with("return self.steps[0](1)")], [("many", "many", "self.steps[0](1)")])

    def test_changes(self):
        self.check([box_with("self.seen = 1")], [("many", "many", "self.seen")])
        self.check([box_with("self.rows.append(1)")], [("many", "many", "self.rows.append(1)")])
        text = box_with("return new(self.rows)", "def new(rows):\n    rows[0] = 1\n")
        self.check([text], [("many", "new", "rows[0]")])
        text = box_with(
            "return new(self.rows)", "def new(rows):\n    rows = list(rows)\n    del rows[0]\n")
        self.check([text], [("many", "new", "rows[0]")])

    def test_changes_of_own_lists(self):
        body = "rows = list(self.rows)\n        rows[0] = 1\n        rows.append(2)"
        self.check([box_with(body)], [])
        body = "rows = self.rows\n        rows[0] = 1"
        self.check([box_with(body)], [("many", "many", "rows[0]")])

    def test_steps(self):
        self.check([box_with("n = 0\n        n += 1\n        return n")], [])
        self.check([box_with("n = 0\n        n += self.by")], [("many", "many", "n += self.by")])

    def test_far_from_properties_all_may_stand(self):
        text = box_with("return 1", "def far(row):\n    return row.index(1)\n")
        self.check([text, HELD], [])


class AnswersTest(unittest.TestCase):
    """What line and useless of a recorder answer, by the words of the document."""

    def test_line_and_useless_of_recorders(self):
        for text in (
                "1 none:", "2 none: s1 r0.1 v0 s0 r1.2", "2 none: s0 v0 s1 r0.2 r1.1 v1",
                "3 none: v1 s1 r0.1 v0 s0 r2.2 v2 s2 r1.3 v1 s0", "2 sent: s1 r0.1 v0 s0 r1.2",
                "3 always: s0 r1.1 s1 r2.2 s2 r0.3 v0", "3 rounds: v0 v0 s0 r1.1 s1 r2.2 s2 r0.3"):
            recorder = Recorder.read(text)
            lines = list(all_lines(recorder.history))
            useless = [
                state for state in all_states(recorder.history)
                if all(line[state[0]] != state[1] for line in lines)]
            self.assertEqual(recorder.useless, tuple(useless))
            last = lines[-1]
            for failed in ((), (0,), tuple(range(len(last)))):
                recorder.failed = failed
                kept = [line for line in lines if all(line[p] < last[p] for p in failed)]
                self.assertEqual(recorder.line, tuple(map(max, *kept, kept[0])))

    def test_reading_changes_nothing(self):
        recorder = Recorder.read("2 none: s1 r0.1 v0 s0 r1.2")
        recorder.failed = (0,)
        before = copy.deepcopy(vars(recorder))
        found = [(recorder.line, recorder.useless, recorder.text) for _ in range(2)]
        self.assertEqual(found, [((0, 0), ((0, 1),), "2 none: s1 r0.1 v0 s0 r1.2")] * 2)
        self.assertEqual(vars(recorder), before)


if __name__ == "__main__":
    unittest.main()

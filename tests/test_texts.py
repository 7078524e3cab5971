"""The texts of histories and lines (point 11)."""

import random
import unittest

from savelines.errors import BadHistory, BadText, LineError
from savelines.histories import history_error
from savelines.lines import all_lines
from savelines.texts import history_text, line_text, parse_history
from tests import plain
from tests.samples import (
    DENSE, H, MANY, U, odd_values, raised, random_history, same_twice, small_histories,
)

# The words that tests put into texts: some that are right somewhere and some that never are.
WORDS = [
    ".", "_", "|", "+1", "-1", "+2", "-2", "+24", "-24", "+25", "-25", "+0", "-0", "0", "1", "+01",
    "-07", "", "++1", "+-1", "--1", "+", "-", "..", "__", "||", "+1.", "_|", "~1", "+1_0", "+1e0",
    "\n", "+1\n", ".\n", "+ 1", "+100", "+" + "1" * 40, "+\u0661", "-\u00b2", "x", "none", "+1,",
]


def wrong_word(words):
    """Return the index of the first word that is not in its place or no event, or None."""
    events = [sign + str(m) for sign in "+-" for m in range(1, 25)] + ["."]
    for index, word in enumerate(words):
        before = words[index - 1] if index else "|"
        fitting = {"|": events + ["_"], "_": ["|"]}.get(before, events + ["|"])
        if word not in fitting:
            return index
    return len(words) if words[-1] == "|" else None


def rows_of(text):
    """Return the rows of a text whose words are all right."""
    rows = [row.split(" ") for row in text.split(" | ")]
    return tuple(tuple(0 if w == "." else int(w) for w in row if w != "_") for row in rows)


class TextsTest(unittest.TestCase):
    def test_examples(self):
        found = [history_text(((1, 0, -2), (2, -1, 0), ())), line_text((1, 0, 2))]
        self.assertEqual(found, ["+1 . -2 | +2 -1 . | _", "1,0,2"])

    def test_history_text(self):
        for history, text in (
                (((),), "_"), (((), ()), "_ | _"), (((0,),), "."), (((0, 0, 3, 0),), ". . +3 ."),
                (((-24,), (24,)), "-24 | +24"), (((),) * 6, "_ | _ | _ | _ | _ | _"),
                (U, "-1 . +2 | +1 -2"), (((1, 10), (), (-10, 0)), "+1 +10 | _ | -10 .")):
            self.assertEqual(history_text(history), text)

    def test_line_text(self):
        self.assertEqual([line_text((0,)), line_text((61, 0)), line_text((1, 10, 0, 2, 3, 4))],
                         ["0", "61,0", "1,10,0,2,3,4"])
        for line in all_lines(H):
            self.assertEqual(line_text(line), f"{line[0]},{line[1]}")

    def test_calls_change_nothing(self):
        for history in (H, U, MANY, DENSE):
            same_twice(history_text, history)
            same_twice(parse_history, history_text(history))
        same_twice(line_text, (1, 2, 3))

    def test_there_and_back(self):
        histories = small_histories() + [random_history(seed) for seed in range(300)]
        for history in histories + [MANY, DENSE]:
            text = history_text(history)
            self.assertEqual(text, " | ".join(plain.row_text(row) for row in history))
            self.assertEqual(parse_history(text), history)


class ParseTest(unittest.TestCase):
    def test_examples(self):
        self.assertEqual(raised(parse_history, "+1 . | -1 _"), ("BadText", 4))
        self.assertEqual(raised(parse_history, "+1 . | -2"), ("BadHistory", ("unsent", 1, 0)))

    def test_histories(self):
        for text, history in (
                ("_", ((),)), (".", ((0,),)), ("+24", ((24,),)), ("_ | _", ((), ())),
                ("+1 | -1", ((1,), (-1,))), ("-1 | +1", ((-1,), (1,))),
                ("_ | . | _ | +9 . | _ | -9", ((), (0,), (), (9, 0), (), (-9,))),
                (". " * 59 + ".", ((0,) * 60,))):
            self.assertEqual(parse_history(text), history)
            self.assertIs(type(parse_history(text)[0]), tuple)

    def test_no_text(self):
        for value in odd_values() + [H, ["_"], ("_",), b"_", 0, {"_": 0}, ((".",),)]:
            if type(value) is not str:
                with self.assertRaises(BadText) as caught:
                    parse_history(value)
                self.assertIsNone(caught.exception.index)

    def test_wrong_words(self):
        for text, index in (
                ("", 0), (" ", 0), ("|", 0), ("| .", 0), ("| _", 0), ("x", 0), ("0", 0), ("1", 0),
                ("+0", 0), ("-0", 0), ("+25", 0), ("-25", 0), ("+01", 0), ("-024", 0), ("++1", 0),
                ("+-1", 0), ("+", 0), ("-", 0), ("+1_0", 0), ("+1.0", 0), ("+ 1", 0), ("..", 0),
                ("\n.", 0), (".\n", 0), ("+1\n-1", 0), ("+1|-1", 0), ("+" + "1" * 1999, 0),
                ("+" + "0" * 5000, 0), ("-" + "9" * 6000, 0), ("+\u0661", 0), ("*1", 0), ("#", 0),
                ("_ .", 1), ("_ _", 1), ("_ +1", 1), (". _", 1), ("+1 _ | .", 1), ("_ ", 1),
                (". ", 1), (" .", 0), (".  .", 1), (". |", 2), ("_ |", 2), (". | ", 2), (". ||", 1),
                (". | |", 2), ("_ | | _", 2), (". | . |", 4), (". | _ .", 3), ("_ | _ _", 3),
                (". | _ | _ .", 5), ("+1 -1 x", 2), ("+1 +1 +25", 2), ("+1 . | -1  .", 4),
                ("_ | _ | _ | _ | _ | _ | _ |", 14), ("_ | _ | _ | _ | _ | _ | |", 12),
                (". " * 61, 61), (". " * 70 + "x", 70), (". . | -5 | +0", 5)):
            with self.assertRaises(LineError) as caught:
                parse_history(text)
            self.assertEqual(type(caught.exception), BadText, text)
            self.assertEqual(caught.exception.index, index, text)

    def test_right_words_but_no_history(self):
        for text, error in (
                ("_ | _ | _ | _ | _ | _ | _", ("history",)), ("| ".join([". "] * 7)[:-1], ("history",)),
                (". " * 60 + ".", ("events",)), (". " * 30 + "| " + ". " * 30 + ".", ("events",)),
                ("+1 +1", ("twice", 0, 1)), ("+1 | -1 -1", ("twice", 1, 1)),
                ("+1 -1", ("unsent", 0, 1)), ("-1", ("unsent", 0, 0)), ("+1 . | -2", ("unsent", 1, 0)),
                ("-1 +2 | -2 +1", ("circle",)), ("_ | -1 +2 | -2 +1 | .", ("circle",)),
                (" | ".join(["+1"] * 7), ("history",))):
            with self.assertRaises(LineError) as caught:
                parse_history(text)
            self.assertEqual(type(caught.exception), BadHistory, text)
            self.assertEqual(caught.exception.error, error, text)

    def test_each_word_behind_each_other_one(self):
        for first in WORDS:
            for second in WORDS:
                for text in (f"{first} {second}", f". | {first} {second}", f"{first} | {second}"):
                    self.check(text)

    def test_texts_with_words_changed(self):
        rng, right, no_history = random.Random(2), 0, 0
        for seed in range(900):
            words = history_text(random_history(seed, 15)).split(" ")
            for _ in range(rng.randint(1, 2)):
                kind, at = rng.randrange(4), rng.randrange(len(words))
                usual = rng.random() < 0.6
                word = rng.choice(WORDS[:9]) if usual else rng.choice(WORDS)
                if kind == 0 and len(words) > 1:
                    del words[at]
                elif kind == 1:
                    words.insert(at, word)
                else:
                    words[at] = word
            found = self.check(" ".join(words))
            right += found == "right"
            no_history += found == "BadHistory"
        self.assertGreater(right, 100)
        self.assertGreater(no_history, 100)
        self.assertGreater(900 - right - no_history, 100)

    def check(self, text):
        """Compare parse_history with a plain reading, and return what it does."""
        index = wrong_word(text.split(" "))
        if index is not None:
            self.assertEqual(raised(parse_history, text), ("BadText", index), text)
            return "BadText"
        error = history_error(rows_of(text))
        if error is not None:
            self.assertEqual(raised(parse_history, text), ("BadHistory", error), text)
            return "BadHistory"
        self.assertEqual(history_text(parse_history(text)), text)
        return "right"


if __name__ == "__main__":
    unittest.main()

"""Zigzags, useless states and lines through states (points 3 and 6)."""

import itertools
import unittest

from savelines.errors import LineError, NotTogether, TwoStates
from savelines.lines import all_lines
from savelines.zigzags import (
    find_zigzag, is_useless, is_zigzag, line_through, useless_states, verdict, verdict_holds,
)
from tests import plain
from tests.samples import (
    DENSE, H, MANY, U, answering, odd_values, same_twice, short_time, small_histories,
)

TWENTY = answering(10)
# Message 3 is sent and never received.
OPEN = ((1, 3), (0, -1, 2), (-2, 0))


class IsZigzagTest(unittest.TestCase):
    def test_example(self):
        found = [is_zigzag(U, (0, 1), (0, 1), (2, 1)), is_zigzag(U, (0, 1), (0, 1), (2,)),
                 is_zigzag(U, (0, 1), (1, 1), (2,))]
        self.assertEqual(found, [True, False, True])

    def test_exactly_the_tuples_of_small_histories(self):
        for history in small_histories()[::5]:
            messages = plain.received(history)[:4]
            values = [v for n in range(4) for v in itertools.product(messages, repeat=n)]
            for one, other in itertools.product(plain.states(history)[::2], repeat=2):
                for value in values:
                    expected = plain.is_zigzag(history, one, other, value)
                    found = is_zigzag(history, one, other, value)
                    self.assertIs(found, expected, (history, one, other, value))

    def test_every_pair_of_states(self):
        for history in (H, U, OPEN, answering(2)):
            messages = plain.received(history)
            values = [v for n in range(6) for v in itertools.product(messages, repeat=n)]
            for one, other in itertools.product(plain.states(history), repeat=2):
                for value in values:
                    expected = plain.is_zigzag(history, one, other, value)
                    self.assertIs(is_zigzag(history, one, other, value), expected)

    def test_round_twice(self):
        for value in ((2, 1, 2, 1), (2, 1) * 500, (2, 1, 2, 1, 2, 1)):
            self.assertIs(is_zigzag(U, (0, 1), (0, 1), value), True)
        self.assertIs(is_zigzag(U, (0, 1), (1, 1), (2, 1, 2)), True)
        self.assertIs(is_zigzag(U, (0, 1), (0, 1), (2, 2, 1)), False)
        self.assertIs(is_zigzag(U, (0, 1), (0, 1), (2, 1, 1)), False)

    def test_the_sending_may_be_before_the_receipt_in_one_interval(self):
        self.assertIs(is_zigzag(((-2, 1), (2, -3), (3,)), (2, 0), (0, 1), (3, 2)), True)
        self.assertIs(is_zigzag(((-2, 1), (2, 0, -3), (3,)), (2, 0), (0, 1), (3, 2)), False)
        self.assertIs(is_zigzag(((-2, 1), (-3, 0, 0, 2), (3,)), (2, 0), (0, 1), (3, 2)), True)

    def test_also_from_all_earlier_states(self):
        self.assertIs(is_zigzag(U, (0, 0), (0, 1), (2, 1)), True)
        self.assertIs(is_zigzag(U, (0, 2), (0, 1), (2, 1)), False)
        self.assertIs(is_zigzag(U, (0, 1), (0, 2), (2, 1)), True)
        self.assertIs(is_zigzag(U, (0, 1), (0, 0), (2, 1)), False)

    def test_messages_that_are_not_received(self):
        self.assertIs(is_zigzag(OPEN, (0, 0), (1, 2), (3,)), False)
        self.assertIs(is_zigzag(OPEN, (0, 0), (1, 2), (1,)), True)
        self.assertIs(is_zigzag(OPEN, (0, 0), (2, 1), (1, 2)), True)
        self.assertIs(is_zigzag(OPEN, (0, 0), (2, 1), (1, 3, 2)), False)
        self.assertIs(is_zigzag(((1,), ()), (0, 0), (1, 1), (1,)), False)

    def test_wrong_values(self):
        pair = ((-1, 0, 2), (1, -2))
        wrong = [
            [2, 1], "21", {"2": 1}, (), (True,), (2, True), (2, 1.0, "1"), (2, None), (2, (1,)),
            (2, [1]), ([2], 1), ({}, 1), ("2", "1"), (2, 1, 0), (0,), (-1,), (2, -1), (2, 25),
            (25,), (10 ** 29,), (2, 1, 3), (3,), ((2, 1),), (2, 1, ()), None, True, 2,
        ]
        for value in wrong + odd_values():
            for one, other in itertools.product(plain.states(pair), repeat=2):
                if repr(value) != "(1,)":
                    self.assertIs(same_twice(is_zigzag, pair, one, other, value), False, value)
        self.assertIs(is_zigzag(pair, (1, 0), (0, 1), (1,)), True)
        self.assertIs(is_zigzag(pair, (1, 0), (0, 1), (True,)), False)


class FindZigzagTest(unittest.TestCase):
    def test_example(self):
        self.assertEqual([find_zigzag(U, (0, 1), (0, 1)), find_zigzag(U, (0, 2), (1, 1))],
                         [(2, 1), None])

    def test_fewest_messages_before_the_smallest_tuple(self):
        history = ((1, 2, 9), (-1, 3), (-2, 4, -3), (-4, -9))
        self.assertEqual(find_zigzag(history, (0, 0), (3, 1)), (9,))
        self.assertEqual(find_zigzag(history, (1, 0), (3, 1)), (3, 4))

    def test_the_smallest_tuple(self):
        history = ((5, 6, 1, 2), (-5, 9, 8), (-6, -1, 3), (-2, -8, -9, -3))
        self.assertEqual(find_zigzag(history, (0, 0), (3, 1)), (2,))
        history = ((5, 6, 1), (-5, 9, 8), (-6, -1, 3), (-8, -9, -3))
        self.assertEqual(find_zigzag(history, (0, 0), (3, 1)), (1, 3))
        history = ((5, 6), (-5, 9, 8), (-6, 3), (-8, -9, -3))
        self.assertEqual(find_zigzag(history, (0, 0), (3, 1)), (5, 8))

    def test_beginnings_and_present_states(self):
        for history in (H, U, OPEN, TWENTY):
            for process, last in enumerate(plain.presents(history)):
                for state in plain.states(history):
                    self.assertIsNone(find_zigzag(history, state, (process, 0)))
                    self.assertIsNone(find_zigzag(history, (process, last), state))

    def test_no_messages(self):
        for history in (((),), ((0, 0),), ((), ()), ((1, 2), (3,))):
            for one, other in itertools.product(plain.states(history), repeat=2):
                self.assertIsNone(find_zigzag(history, one, other))

    def test_small_histories(self):
        for history in small_histories():
            found = plain.zigzags(history)
            for one, other in itertools.product(plain.states(history), repeat=2):
                expected = plain.find(history, found, one, other)
                self.assertEqual(find_zigzag(history, one, other), expected)

    def test_each_one_found_is_one(self):
        for history in small_histories()[::3]:
            for one, other in itertools.product(plain.states(history)[::2], repeat=2):
                value = same_twice(find_zigzag, history, one, other)
                if value is not None:
                    self.assertIs(type(value), tuple)
                    self.assertIs(is_zigzag(history, one, other, value), True)

    def test_twenty_messages(self):
        with short_time():
            self.assertEqual(find_zigzag(TWENTY, (0, 10), (0, 1)), tuple(range(20, 0, -1)))
            self.assertEqual(find_zigzag(TWENTY, (0, 10), (0, 10)), (20, 19))
            self.assertEqual(find_zigzag(TWENTY, (1, 9), (1, 1)), tuple(range(19, 1, -1)))
            self.assertIs(is_zigzag(TWENTY, (0, 10), (0, 1), tuple(range(20, 0, -1))), True)
            self.assertIs(is_zigzag(TWENTY, (0, 10), (0, 1), tuple(range(20, 1, -1))), False)
            self.assertIs(is_zigzag(TWENTY, (0, 10), (0, 1), tuple(range(20, 1, -2))), False)

    def test_messages_with_very_many_ways(self):
        # Without saves each message may stand behind each message of the other process.
        bare = tuple(tuple(event for event in row if event != 0) for row in DENSE)
        with short_time():
            self.assertIsNone(find_zigzag(bare, (0, 0), (0, 0)))
            self.assertEqual(find_zigzag(bare, (0, 0), (0, 1)), (1, 2))
            self.assertEqual(find_zigzag(DENSE, (0, 6), (1, 0)), None)
            for one, other in itertools.product(plain.states(DENSE), repeat=2):
                value = find_zigzag(DENSE, one, other)
                self.assertTrue(value is None or plain.is_zigzag(DENSE, one, other, value))


class UselessTest(unittest.TestCase):
    def test_example(self):
        found = [useless_states(((-1, 0, 2), (1, -2))), useless_states(((1, 0, -2), (2, -1, 0)))]
        self.assertEqual(found, [((0, 1),), ()])

    def test_small_histories(self):
        for history in small_histories():
            lines = plain.lines(history)
            expected = []
            for process, number in plain.states(history):
                useless = not any(line[process] == number for line in lines)
                self.assertIs(is_useless(history, (process, number)), useless)
                if useless:
                    expected.append((process, number))
            self.assertEqual(same_twice(useless_states, history), tuple(expected))

    def test_useless_exactly_if_a_zigzag_leads_from_it_to_itself(self):
        for history in [*small_histories(), MANY, TWENTY, DENSE]:
            for state in plain.states(history):
                circle = find_zigzag(history, state, state)
                self.assertIs(is_useless(history, state), circle is not None)

    def test_all_saves_of_processes_that_answer_one_another(self):
        with short_time():
            expected = [(0, k) for k in range(1, 11)] + [(1, k) for k in range(1, 10)]
            self.assertEqual(useless_states(TWENTY), tuple(expected))

    def test_never_a_beginning_or_a_present_state(self):
        for history in [*small_histories(), MANY, TWENTY, DENSE]:
            for process, last in enumerate(plain.presents(history)):
                self.assertIs(is_useless(history, (process, 0)), False)
                self.assertIs(is_useless(history, (process, last)), False)

    def test_very_many_lines(self):
        with short_time():
            self.assertEqual(same_twice(useless_states, MANY), ())
            self.assertEqual(type(useless_states(MANY)), tuple)


class LineThroughTest(unittest.TestCase):
    def check_error(self, history, states, error):
        for first in (True, False):
            with self.assertRaises(LineError) as caught:
                line_through(history, *states, first=first)
            self.assertIs(type(caught.exception), type(error))
            self.assertEqual(vars(caught.exception), vars(error))

    def test_examples(self):
        found = [line_through(H, (0, 2)), line_through(H, (0, 1), first=False), line_through(H)]
        self.assertEqual(found, [(2, 1), (1, 2), (0, 0)])
        with self.assertRaises(NotTogether) as caught:
            line_through(((-1, 0, 2), (1, -2)), (0, 1))
        self.assertEqual((caught.exception.one, caught.exception.other), ((0, 1), (0, 1)))

    def test_first_is_true_if_not_given(self):
        for history in (H, MANY, TWENTY):
            self.assertEqual(line_through(history), line_through(history, first=True))
            self.assertEqual(line_through(history), (0,) * len(history))
            self.assertEqual(line_through(history, first=False), tuple(plain.presents(history)))

    def test_two_states(self):
        self.check_error(H, [(0, 1), (0, 2)], TwoStates(0))
        self.check_error(H, [(1, 1), (0, 0), (1, 0)], TwoStates(1))
        self.check_error(H, [(1, 1), (0, 1), (1, 0), (0, 2)], TwoStates(0))
        self.check_error(((), (), ()), [(2, 1), (2, 0)], TwoStates(2))
        self.check_error(((), (), ()), [(2, 1), (1, 1), (2, 0), (1, 0)], TwoStates(1))

    def test_two_states_before_not_together(self):
        self.check_error(U, [(0, 1), (1, 0), (1, 1)], TwoStates(1))
        self.check_error(U, [(0, 1), (0, 0)], TwoStates(0))
        self.check_error(H + ((),), [(1, 0), (0, 2), (2, 0), (2, 1)], TwoStates(2))

    def test_not_together(self):
        self.check_error(H, [(0, 2), (1, 0)], NotTogether((1, 0), (0, 2)))
        self.check_error(H, [(1, 0), (0, 2)], NotTogether((1, 0), (0, 2)))
        self.check_error(H, [(0, 0), (1, 1)], NotTogether((0, 0), (1, 1)))
        self.check_error(U, [(0, 0), (1, 1)], NotTogether((0, 0), (1, 1)))
        self.check_error(U, [(0, 2), (1, 0)], NotTogether((1, 0), (0, 2)))

    def test_the_smallest_pair(self):
        self.check_error(U, [(0, 1), (1, 1)], NotTogether((0, 1), (0, 1)))
        self.check_error(U, [(1, 0), (0, 1)], NotTogether((0, 1), (0, 1)))
        self.check_error(((1,), (-1, 2), (-2,)), [(2, 1), (0, 0), (1, 0)],
                         NotTogether((0, 0), (2, 1)))
        self.check_error(((), (1,), (-1, 2), (-2,)), [(3, 1), (2, 0), (0, 1), (1, 1)],
                         NotTogether((2, 0), (3, 1)))

    def test_the_same_state_twice(self):
        self.assertEqual(line_through(H, (0, 2), (0, 2)), (2, 1))
        self.assertEqual(line_through(H, (0, 2), (1, 1), (0, 2), first=False), (2, 1))
        self.assertEqual(line_through(H, *[(0, 2)] * 500), (2, 1))
        self.check_error(U, [(0, 1), (0, 1)], NotTogether((0, 1), (0, 1)))

    def test_small_histories(self):
        for history in small_histories():
            lines, found = plain.lines(history), plain.zigzags(history)
            states = plain.states(history)
            pairs = list(itertools.combinations(states, 2))
            triples = list(itertools.combinations(states[::2], 3))[::4]
            for given in [(), *[(state,) for state in states], *pairs[::2], *triples]:
                self.check(history, given[::-1], lines, found)

    def check(self, history, given, lines, found):
        fitting = [line for line in lines if all(line[p] == k for p, k in given)]
        doubles = [p for p in range(len(history)) if len({k for q, k in given if q == p}) > 1]
        if doubles:
            self.check_error(history, given, TwoStates(doubles[0]))
        elif fitting:
            self.assertEqual(line_through(history, *given), plain.least(fitting))
            self.assertEqual(line_through(history, *given, first=False), plain.greatest(fitting))
        else:
            pair = next(
                pair for pair in itertools.product(sorted(given), repeat=2)
                if plain.find(history, found, *pair))
            self.check_error(history, given, NotTogether(*pair))

    def test_calls_change_nothing(self):
        for history in small_histories()[::7]:
            for state in plain.states(history):
                if not is_useless(history, state):
                    for first in (True, False):
                        line = same_twice(line_through, history, state, first=first)
                        self.assertIs(type(line), tuple)

    def test_very_many_lines(self):
        with short_time():
            self.assertEqual(line_through(MANY, (3, 1)), (4, 10, 0, 1, 0, 0))
            self.assertEqual(line_through(MANY, (1, 3)), (4, 3, 0, 0, 0, 0))
            self.assertEqual(line_through(MANY, (0, 0), first=False), (0, 2, 10, 0, 10, 10))
            self.check_error(MANY, [(1, 10), (0, 1), (4, 3)], NotTogether((0, 1), (1, 10)))
            self.check_error(TWENTY, [(0, 10), (1, 3)], NotTogether((0, 10), (0, 10)))


class VerdictTest(unittest.TestCase):
    def chosen(self, history):
        """Return tuples of states of different processes."""
        rows = [[None] + list(range(last + 1)) for last in plain.presents(history)]
        numbers = list(itertools.product(*rows))
        return [
            tuple((p, k) for p, k in enumerate(some) if k is not None)
            for some in numbers[::1 + len(numbers) // 40]]

    def test_examples(self):
        self.assertIs(verdict_holds(H, ((0, 2), (1, 0)), verdict(H, (0, 2), (1, 0))), True)
        found = [verdict_holds(H, ((0, 2), (1, 0)), ("zigzag", (1, 0), (0, 2), (2,))),
                 verdict_holds(H, ((0, 2),), ("line", (2, 0)))]
        self.assertEqual(found, [True, False])

    def test_exactly_one_of_the_two_exists(self):
        for history in small_histories():
            lines, found = plain.lines(history), plain.zigzags(history)
            for given in self.chosen(history):
                fits = any(all(line[p] == k for p, k in given) for line in lines)
                joined = any(
                    plain.find(history, found, *pair)
                    for pair in itertools.product(given, repeat=2))
                self.assertIs(fits, not joined)
                value = verdict(history, *given)
                self.assertEqual(value[0], "line" if fits else "zigzag")
                self.check_true(history, given, value)
                self.assertIs(verdict_holds(history, given, value), True)
                self.assertIs(verdict_holds(history, given[::-1], value), True)

    def check_true(self, history, given, value):
        self.assertIs(type(value), tuple)
        if value[0] == "line":
            self.assertEqual(plain.orphans(history, value[1]), ())
            self.assertTrue(all(value[1][p] == k for p, k in given))
            self.assertEqual(len(value), 2)
        else:
            self.assertIn(value[1], given)
            self.assertIn(value[2], given)
            self.assertTrue(plain.is_zigzag(history, *value[1:]))
            self.assertEqual(len(value), 4)

    def test_edges(self):
        self.assertEqual(verdict(((),))[0], "line")
        self.assertEqual(verdict(((),), (0, 1)), ("line", (1,)))
        self.assertEqual(verdict(U, (0, 1))[:3], ("zigzag", (0, 1), (0, 1)))
        for history in (MANY, TWENTY, DENSE):
            with short_time():
                for state in plain.states(history):
                    value = same_twice(verdict, history, state)
                    self.assertIs(same_twice(verdict_holds, history, (state,), value), True)
        states = ((0, 10), (1, 10), (2, 10), (3, 10), (4, 10), (5, 10))
        self.assertEqual(verdict(MANY, *states), ("line", (10,) * 6))

    def test_exactly_the_lines(self):
        for history in small_histories()[::4]:
            lines = plain.lines(history)
            for given in self.chosen(history)[::5]:
                for line in plain.every_line(history)[::5] + lines[::5]:
                    fits = line in lines and all(line[p] == k for p, k in given)
                    self.assertIs(verdict_holds(history, given, ("line", line)), fits)

    def test_exactly_the_zigzags(self):
        for history in (H, U, OPEN, answering(2)):
            messages = plain.received(history)
            for given in self.chosen(history):
                for one, other in itertools.product(plain.states(history), repeat=2):
                    for value in [(), *itertools.permutations(messages, 2), *zip(messages)]:
                        expected = one in given and other in given
                        expected = expected and plain.is_zigzag(history, one, other, value)
                        found = verdict_holds(history, given, ("zigzag", one, other, value))
                        self.assertIs(found, expected)

    def test_any_line_and_any_zigzag(self):
        for line in plain.lines(H):
            self.assertIs(verdict_holds(H, (), ("line", line)), True)
        for messages in ((2, 1), (2, 1, 2, 1), (2, 1) * 490):
            value = ("zigzag", (0, 1), (0, 1), messages)
            self.assertIs(verdict_holds(U, ((0, 1), (1, 0)), value), True)
            self.assertIs(verdict_holds(U, ((1, 0),), value), False)
            self.assertIs(verdict_holds(U, (), value), False)

    def test_a_state_that_is_not_given(self):
        value = ("zigzag", (1, 0), (0, 2), (2,))
        self.assertIs(verdict_holds(H, ((0, 2), (1, 0)), value), True)
        self.assertIs(verdict_holds(H, ((0, 2),), value), False)
        self.assertIs(verdict_holds(H, ((1, 0),), value), False)
        self.assertIs(verdict_holds(H, ((0, 2), (1, 1)), value), False)

    def test_wrong_lines(self):
        wrong = [
            ("line",), ("line", (1, 0), ()), ["line", (1, 0)], ("line", [1, 0]), ("Line", (1, 0)),
            ("line", (True, False)), ("line", (1, False)), ("line", (True, 0)), ("line", (1,)),
            ("line", (1, 0, 0)), ("line", (1, -1)), ("line", (1, 3)), ("line", None),
            ("line", "10"), ("line", ("1", "0")), ("line", ((1, 0),)), ("line", {}), ("line", 1),
            ("line", ()), (None, (1, 0)), (1, (1, 0)), (("line",), (1, 0)), (["line"], (1, 0)),
            ("zigzag", (1, 0)), ("line", (1, 0), (1, 0), (2,)), ((1, 0), "line"), (1, 0), "line",
            ("line", (1, 10 ** 29)), {"line": (1, 0)},
        ]
        self.assertIs(verdict_holds(H, (), ("line", (1, 0))), True)
        for value in wrong:
            for states in ((), ((0, 1),), ((0, 1), (1, 0))):
                self.assertIs(same_twice(verdict_holds, H, states, value), False, value)

    def test_wrong_zigzags(self):
        wrong = [
            ("zigzag", (1, 0), (0, 2)), ("zigzag", (1, 0), (0, 2), (2,), ()),
            ["zigzag", (1, 0), (0, 2), (2,)], ("zigzag", [1, 0], (0, 2), (2,)),
            ("zigzag", (1, 0), [0, 2], (2,)), ("zigzag", (1, 0), (0, 2), [2]),
            ("zigzag", (True, 0), (0, 2), (2,)), ("zigzag", (1, False), (0, 2), (2,)),
            ("zigzag", (True, False), (0, 2), (2,)), ("zigzag", (1, 0), (False, 2), (2,)),
            ("zigzag", (0, 2), (1, 0), (2,)), ("zigzag", (1, 0), (0, 2), ()),
            ("zigzag", (1, 0), (0, 2), 2), ("zigzag", (1, 0), (0, 2), None),
            ("zigzag", (1, 0), (0, 2), "2"), ("zigzag", (1, 0), (0, 2), ("2",)),
            ("zigzag", (1, 0), (0, 2), (1,)), ("zigzag", (1, 0), (0, 2), (2, 2)),
            ("zigzag", (1, 0, 0), (0, 2), (2,)), ("zigzag", (1,), (0, 2), (2,)),
            ("zigzag", None, None, (2,)), ("zigzag", {}, [], {}), ("zigzag", 1, 0, (2,)),
            ("zigzag", ((1, 0), (0, 2)), (2,)), ("zigzag", (), (), ()), ("zigzag",), "zigzag",
            ("zig", (1, 0), (0, 2), (2,)), (None, (1, 0), (0, 2), (2,)), (2,),
            ("line", (1, 0), (0, 2), (2,)), ("zigzag", "10", "02", (2,)),
            ("zigzag", (1, 10 ** 29), (0, 2), (2,)), ("zigzag", (1, -1), (0, 2), (2,)),
        ]
        states = ((1, 0), (0, 2))
        self.assertIs(verdict_holds(H, states, ("zigzag", (1, 0), (0, 2), (2,))), True)
        for value in wrong + odd_values():
            self.assertIs(same_twice(verdict_holds, H, states, value), False, value)

    def test_bool_messages(self):
        value = ("zigzag", (1, 0), (0, 1), (1,))
        self.assertIs(verdict_holds(U, ((1, 0), (0, 1)), value), True)
        value = ("zigzag", (1, 0), (0, 1), (True,))
        self.assertIs(verdict_holds(U, ((1, 0), (0, 1)), value), False)

    def test_other_values(self):
        for value in odd_values() + [H, U, TwoStates(0), NotTogether((0, 1), (0, 1))]:
            for states in ((), ((0, 0),), ((1, 1), (0, 2))):
                self.assertIs(verdict_holds(H, states, value), False)

    def test_the_line_is_one_of_all_lines(self):
        for history in small_histories()[::6]:
            for given in self.chosen(history)[::3]:
                word, *rest = verdict(history, *given)
                self.assertEqual(word == "line", bool(list(all_lines(history, *given))))
                if word == "line":
                    self.assertIn(rest[0], list(all_lines(history, *given)))


if __name__ == "__main__":
    unittest.main()

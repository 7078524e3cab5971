"""Causal zigzags, vectors and tracked histories (points 2, 3 and 8)."""

import itertools
import unittest

from savelines.causes import comes_before, find_untracked, is_causal, is_tracked, vector_of
from savelines.lines import is_consistent
from savelines.zigzags import find_zigzag, line_through, useless_states
from tests import plain
from tests.samples import (
    DENSE, H, MANY, U, answering, random_history, same_twice, short_time, small_histories,
    tracked_history,
)

TWENTY = answering(10)
# Process 1 answers before it has what it answers, with and without a save between the two.
EARLY = ((1,), (2, -1), (-2,))
SAVED = ((1,), (2, 0, -1), (-2,))


class IsCausalTest(unittest.TestCase):
    def test_example(self):
        found = [is_causal(((-1, 0, 2), (1, -2)), (2, 1)),
                 is_causal(((1,), (-1, 2), (-2,)), (1, 2))]
        self.assertEqual(found, [False, True])

    def test_one_message(self):
        for history in small_histories():
            for message in plain.received(history):
                self.assertIs(is_causal(history, (message,)), True)

    def test_long_zigzags(self):
        chain = ((1, -2, 3, -4, 5), (-1, 2, -3, 4, -5))
        self.assertIs(is_causal(chain, (1, 2, 3, 4, 5)), True)
        self.assertIs(is_causal(chain, (1, 4, 5)), True)
        self.assertIs(is_causal(chain, (1, 4, 3)), False)
        self.assertIs(is_causal(chain, (5, 4)), False)
        self.assertIs(is_causal(chain, (3, 2, 3, 4)), False)
        self.assertIs(is_causal(TWENTY, tuple(range(1, 21))), True)
        self.assertIs(is_causal(TWENTY, tuple(range(20, 0, -1))), False)
        self.assertIs(is_causal(TWENTY, tuple(range(1, 20)) + (18,)), False)
        self.assertIs(is_causal(U, (2, 1, 2)), False)

    def test_within_one_interval_the_order_counts(self):
        self.assertIs(is_causal(EARLY, (1, 2)), False)
        self.assertIs(is_causal(((1,), (-1, 0, 2), (-2,)), (1, 2)), True)

    def test_all_zigzags_of_small_histories(self):
        for history in small_histories():
            for messages in plain.zigzags(history):
                found = is_causal(history, messages)
                self.assertIs(found, plain.is_causal(history, messages))
        self.assertIs(same_twice(is_causal, U, (2, 1)), False)


class ComesBeforeTest(unittest.TestCase):
    def test_example(self):
        found = [comes_before(H, (0, 0), (1, 1)), comes_before(H, (0, 1), (1, 1)),
                 comes_before(H, (1, 0), (1, 2))]
        self.assertEqual(found, [True, False, True])

    def test_states_of_one_process(self):
        for history in (((),), ((0, 0),), H, U, TWENTY):
            for process, last in enumerate(plain.presents(history)):
                for one, other in itertools.product(range(last + 1), repeat=2):
                    found = comes_before(history, (process, one), (process, other))
                    self.assertIs(found, one < other)

    def test_a_present_state_comes_before_no_other(self):
        for history in small_histories():
            for process, last in enumerate(plain.presents(history)):
                for state in plain.states(history):
                    self.assertIs(comes_before(history, (process, last), state), False)

    def test_only_causal_zigzags_count(self):
        self.assertIsNotNone(find_zigzag(EARLY, (0, 0), (2, 1)))
        self.assertIs(comes_before(EARLY, (0, 0), (2, 1)), False)
        self.assertIs(comes_before(EARLY, (1, 0), (2, 1)), True)
        self.assertIs(comes_before(EARLY, (0, 0), (1, 1)), True)
        self.assertIs(comes_before(U, (0, 1), (0, 1)), False)

    def test_another_zigzag_may_be_causal(self):
        # The smallest zigzag, (1, 3), is not causal; (2, 4) is.
        history = ((1, 2), (3, -1), (-2, 4), (-3, -4))
        self.assertEqual(find_zigzag(history, (0, 0), (3, 1)), (1, 3))
        self.assertIs(comes_before(history, (0, 0), (3, 1)), True)

    def test_small_histories(self):
        for history in small_histories():
            found = plain.zigzags(history)
            for one, other in itertools.product(plain.states(history), repeat=2):
                expected = plain.comes_before(history, found, one, other)
                self.assertIs(comes_before(history, one, other), expected)

    def test_calls_change_nothing(self):
        for history in (H, U, EARLY, MANY):
            for one, other in itertools.product(plain.states(history)[::3], repeat=2):
                same_twice(comes_before, history, one, other)


class VectorTest(unittest.TestCase):
    def test_example(self):
        self.assertEqual([vector_of(H, (1, 1)), vector_of(H, (0, 0))], [(1, 1), (0, 0)])

    def test_edges(self):
        self.assertEqual([vector_of(((),), (0, k)) for k in (0, 1)], [(0,), (1,)])
        self.assertEqual([vector_of(((0, 0),), (0, k)) for k in range(4)],
                         [(0,), (1,), (2,), (3,)])
        self.assertEqual(vector_of(((), (), ()), (1, 1)), (0, 1, 0))
        self.assertEqual(vector_of(EARLY, (2, 1)), (0, 1, 1))
        self.assertEqual(vector_of(((1,), (-1, 2), (-2,)), (2, 1)), (1, 1, 1))
        self.assertEqual(vector_of(((0, 1, 0), (-1, 0)), (1, 1)), (2, 1))
        self.assertEqual(vector_of(((0, 1, 0), (-1, 0)), (1, 0)), (0, 0))

    def test_word_by_word(self):
        for history in small_histories():
            for state in plain.states(history):
                expected = [
                    next(k for k in range(last + 1) if not comes_before(history, (p, k), state))
                    for p, last in enumerate(plain.presents(history))]
                found = same_twice(vector_of, history, state)
                self.assertEqual(found, tuple(expected))
                self.assertIs(type(found), tuple)
                self.assertEqual(found[state[0]], state[1])

    def test_in_a_tracked_history_it_is_the_least_line(self):
        histories = small_histories() + [tracked_history(seed) for seed in range(120)]
        tracked = [history for history in histories if is_tracked(history)]
        self.assertGreater(len(tracked), 300)
        for history in tracked:
            for state in plain.states(history):
                vector = vector_of(history, state)
                self.assertEqual(vector, line_through(history, state))
                self.assertTrue(is_consistent(history, vector))

    def test_large_histories(self):
        with short_time():
            self.assertEqual(vector_of(TWENTY, (0, 11)), (11, 10))
            self.assertEqual(vector_of(TWENTY, (0, 1)), (1, 1))
            self.assertEqual(vector_of(TWENTY, (1, 1)), (2, 1))
            self.assertEqual(vector_of(MANY, (3, 1)), (4, 10, 0, 1, 0, 0))
            self.assertEqual(vector_of(MANY, (4, 6)), (0, 0, 0, 0, 6, 10))


class TrackedTest(unittest.TestCase):
    def test_example(self):
        self.assertEqual([is_tracked(((1, 0, -2), (2, -1, 0))),
                          find_untracked(((-1, 0, 2), (1, -2)))], [True, ((0, 1), (0, 1))])

    def test_tracked(self):
        for history in (((),), ((0, 0),), ((1,), (-1,)), H, ((1,), (-1, 2), (-2,)), MANY):
            self.assertIs(same_twice(is_tracked, history), True)
            self.assertIsNone(same_twice(find_untracked, history))

    def test_not_tracked(self):
        self.assertIs(is_tracked(EARLY), False)
        self.assertEqual(find_untracked(EARLY), ((0, 0), (2, 1)))
        self.assertIs(is_tracked(SAVED), True)
        self.assertIs(is_tracked(U), False)
        self.assertEqual(find_untracked(((1,), (2, -1), (-2, 0))), ((0, 0), (2, 1)))
        self.assertEqual(find_untracked(((0, 1), (2, -1), (0, -2, 0))), ((0, 0), (2, 2)))
        self.assertEqual(find_untracked(((), (-1, 0, 2), (1, -2))), ((1, 1), (1, 1)))

    def test_the_smallest_pair_although_another_one_is_in_front(self):
        # From (0, 0) a causal zigzag leads to (2, 1), from (0, 1) only another one.
        history = ((1, 0, 2), (-1, 3, 4, -2), (-3, -4))
        self.assertEqual(find_untracked(history), ((0, 1), (2, 1)))

    def test_small_histories(self):
        for history in small_histories():
            found = plain.zigzags(history)
            pairs = [
                (one, other) for one, other in itertools.product(plain.states(history), repeat=2)
                if plain.find(history, found, one, other)
                and not plain.comes_before(history, found, one, other)]
            expected = pairs[0] if pairs else None
            self.assertEqual(same_twice(find_untracked, history), expected)
            self.assertIs(same_twice(is_tracked, history), expected is None)

    def test_the_other_functions_agree(self):
        for history in [random_history(seed, 40) for seed in range(40)]:
            states = plain.states(history)
            pairs = (
                (one, other) for one, other in itertools.product(states, repeat=2)
                if not comes_before(history, one, other) and find_zigzag(history, one, other))
            self.assertEqual(find_untracked(history), next(pairs, None))

    def test_in_a_tracked_history_no_state_is_useless(self):
        for history in small_histories() + [random_history(seed) for seed in range(60)]:
            if is_tracked(history):
                self.assertEqual(useless_states(history), ())

    def test_large_histories(self):
        with short_time():
            self.assertEqual(find_untracked(TWENTY), ((0, 1), (0, 1)))
            self.assertEqual(find_untracked(DENSE), self.plain_untracked(DENSE))

    def plain_untracked(self, history):
        """Return the answer, found by going back from each state, message by message."""
        messages = plain.received(history)
        for one, other in itertools.product(plain.states(history), repeat=2):
            if self.leads(history, messages, one, other, False):
                early = one[0] == other[0] and one[1] < other[1]
                if not early and not self.leads(history, messages, one, other, True):
                    return (one, other)
        return None

    def leads(self, history, messages, one, other, causal):
        reached = {m for m in messages if plain.is_zigzag(history, one, self.end(history, m), (m,))}
        while True:
            more = {
                n for m in reached for n in messages
                if plain.interval(history, n)[0] == plain.interval(history, -m)[0]
                and plain.interval(history, n) >= plain.interval(history, -m)
                and (not causal or plain.is_causal(history, (m, n)))}
            if more <= reached:
                break
            reached |= more
        return any(
            plain.interval(history, -m)[0] == other[0]
            and plain.interval(history, -m)[1] < other[1] for m in reached)

    def end(self, history, message):
        return plain.last_state(history, (message,))


if __name__ == "__main__":
    unittest.main()

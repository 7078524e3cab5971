"""Lines: what is before and behind them, and all consistent ones (points 3, 4 and 5)."""

import itertools
import unittest

from savelines.histories import is_history
from savelines.lines import (
    all_lines, in_transit, is_consistent, is_line, lower_line, orphans, undone_events, upper_line,
)
from tests import plain
from tests.samples import (
    DENSE, H, MANY, U, answering, odd_values, same_twice, short_time, small_histories,
)

# Messages 3 and 4 are sent and never received.
OPEN = ((3, 0, -1), (1, 0, 4), (), (0, 0))


class IsLineTest(unittest.TestCase):
    def test_example(self):
        self.assertEqual([is_line(H, (1, 2)), is_line(H, (1, 3)), is_line(H, (1,))],
                         [True, False, False])

    def test_exactly_the_lines(self):
        parts = [-1, 0, 1, 2, 3, 10 ** 29, True, False, None, "0", (0,), [1]]
        for history in (((),), ((0,),), H, U, ((0,), (), (1,))):
            lines = [repr(line) for line in plain.every_line(history)]
            for length in range(4):
                for value in itertools.product(parts, repeat=length):
                    found = same_twice(is_line, history, value)
                    self.assertIs(found, repr(value) in lines, (history, value))

    def test_lists_and_other_values(self):
        for history in (H, U, ((),), ((0,),), MANY):
            for value in [[0] * len(history), *odd_values(), H, "line", {"0": 0}, 0, (0,) * 1000]:
                expected = repr(value) in [repr(n) for n in [(0,), (1,)] if len(history) == 1]
                self.assertIs(same_twice(is_line, history, value), expected, (history, value))

    def test_six_processes(self):
        self.assertIs(is_line(MANY, (10,) * 6), True)
        self.assertIs(is_line(MANY, (0,) * 6), True)
        self.assertIs(is_line(MANY, (10, 10, 10, 10, 10, 11)), False)
        self.assertIs(is_line(MANY, (10,) * 5), False)
        self.assertIs(is_line(MANY, (10,) * 7), False)
        self.assertIs(is_line(MANY, (1, 1, 1, 1, 1, True)), False)
        self.assertIs(is_line(MANY, [10] * 6), False)


class OneLineTest(unittest.TestCase):
    def test_examples(self):
        found = [orphans(H, (2, 0)), orphans(H, (0, 1)), is_consistent(H, (2, 1))]
        self.assertEqual(found, [(2,), (1,), True])
        self.assertEqual(in_transit(((1, 0, -2), (2, -1, 0)), (1, 1)), (2,))
        self.assertEqual(undone_events(((1, 0, -2), (2, -1, 0)), (1, 2)), (2, 0))

    def test_a_save_of_the_line_is_behind_it(self):
        self.assertEqual(undone_events(((0, 0, 0),), (2,)), (2,))
        self.assertEqual([undone_events(((0,),), (k,)) for k in range(3)], [(1,), (1,), (0,)])

    def test_rows_without_events(self):
        self.assertEqual(orphans(((), ()), (0, 1)), ())
        self.assertIs(is_consistent(((),), (1,)), True)
        self.assertEqual(in_transit(((), (1,)), (0, 1)), (1,))
        self.assertEqual([undone_events(((),), (k,)) for k in (0, 1)], [(0,), (0,)])

    def test_messages_that_are_never_received(self):
        self.assertEqual(in_transit(OPEN, (2, 2, 1, 3)), (3, 4))
        self.assertEqual(in_transit(OPEN, (1, 1, 0, 0)), (1, 3))
        self.assertEqual(in_transit(OPEN, (0, 2, 0, 0)), (1, 4))
        self.assertEqual(in_transit(OPEN, (0, 0, 0, 0)), ())
        self.assertEqual(orphans(OPEN, (2, 0, 1, 3)), (1,))
        self.assertEqual(undone_events(OPEN, (1, 1, 1, 2)), (2, 2, 0, 1))

    def test_the_answers_are_ascending_tuples(self):
        self.assertEqual(orphans(((7, 2, 9), (-9, -7, -2)), (0, 1)), (2, 7, 9))
        self.assertEqual(in_transit(((7, 2, 9), (-9, 0, -7, -2)), (1, 1)), (2, 7))
        self.assertIs(type(orphans(H, (0, 0))), tuple)
        self.assertIs(type(in_transit(H, (0, 0))), tuple)
        self.assertIs(type(undone_events(H, (0, 0))), tuple)

    def test_each_line_of_small_histories(self):
        for history in small_histories():
            for line in plain.every_line(history)[::3]:
                self.check(history, line)

    def check(self, history, line):
        ahead, later = plain.before(history, line), plain.behind(history, line)
        expected = plain.orphans(history, line)
        self.assertEqual(same_twice(orphans, history, line), expected)
        self.assertIs(same_twice(is_consistent, history, line), expected == ())
        moving = [
            history[p][i] for p, i in ahead
            if history[p][i] > 0 and plain.spot(history, -history[p][i]) not in ahead]
        self.assertEqual(same_twice(in_transit, history, line), tuple(sorted(moving)))
        counts = tuple(sum(p == q for q, i in later) for p in range(len(history)))
        self.assertEqual(same_twice(undone_events, history, line), counts)

    def test_what_is_before_a_consistent_line_is_a_history(self):
        for history in small_histories():
            for line in plain.every_line(history)[::3]:
                undone = undone_events(history, line)
                rows = tuple(row[:len(row) - n] for row, n in zip(history, undone))
                self.assertIs(is_history(rows), is_consistent(history, line), (history, line))

    def test_beginnings_and_present_states_are_consistent(self):
        for history in [*small_histories(), MANY, DENSE, answering(10)]:
            self.assertIs(is_consistent(history, (0,) * len(history)), True)
            self.assertIs(is_consistent(history, tuple(plain.presents(history))), True)


class LowerUpperTest(unittest.TestCase):
    def test_example(self):
        found = [lower_line((1, 2), (2, 1), (1, 1)), upper_line((1, 2), (2, 1)), lower_line((0, 3))]
        self.assertEqual(found, [(1, 1), (2, 2), (0, 3)])

    def test_one_line(self):
        self.assertEqual([lower_line((4,)), upper_line((4,))], [(4,), (4,)])
        self.assertEqual(upper_line((0, 3)), (0, 3))
        self.assertEqual([same_twice(lower_line, (0,) * 6), same_twice(upper_line, (1,) * 6)],
                         [(0,) * 6, (1,) * 6])

    def test_many_lines(self):
        lines = [(0, 5, 2), (3, 1, 2), (1, 4, 9), (3, 5, 0), (2, 2, 2)]
        for chosen in itertools.permutations(lines, 3):
            self.assertEqual(same_twice(lower_line, *chosen), plain.least(chosen))
            self.assertEqual(same_twice(upper_line, *chosen), plain.greatest(chosen))
        self.assertEqual(lower_line(*lines), (0, 1, 0))
        self.assertEqual(upper_line(*lines), (3, 5, 9))
        self.assertEqual(lower_line(*lines[:1] * 50), (0, 5, 2))
        self.assertIs(type(lower_line(*lines)), tuple)
        self.assertIs(type(upper_line(*lines)), tuple)

    def test_lines_of_consistent_lines_are_consistent(self):
        for history in small_histories():
            lines = plain.lines(history)
            for one, other in itertools.product(lines[::5], lines[::7]):
                self.assertTrue(is_consistent(history, lower_line(one, other)))
                self.assertTrue(is_consistent(history, upper_line(one, other)))


class AllLinesTest(unittest.TestCase):
    def test_example(self):
        found = [list(all_lines(H, (0, 2))), len(list(all_lines(H))),
                 list(all_lines(H, (0, 1), (0, 2)))]
        self.assertEqual(found, [[(2, 1), (2, 2)], 6, []])

    def test_one_process(self):
        self.assertEqual(list(all_lines(((),))), [(0,), (1,)])
        self.assertEqual(list(all_lines(((0, 1),))), [(0,), (1,), (2,)])
        self.assertEqual(list(all_lines(((0, 1),), (0, 1))), [(1,)])

    def test_the_same_state_twice(self):
        self.assertEqual(list(all_lines(H, (0, 2), (0, 2))), [(2, 1), (2, 2)])
        self.assertEqual(list(all_lines(H, (0, 2), (1, 1), (0, 2), (1, 1))), [(2, 1)])

    def test_two_states_of_one_process(self):
        self.assertEqual(list(all_lines(((),), (0, 0), (0, 1))), [])
        self.assertEqual(list(all_lines(((),), (0, 1), (0, 0))), [])
        self.assertEqual(list(all_lines(H, (0, 1), (1, 1), (0, 0), (1, 1))), [])

    def test_useless_state(self):
        self.assertEqual(list(all_lines(U, (0, 1))), [])
        self.assertEqual(list(all_lines(U)), [(0, 0), (2, 1)])

    def test_small_histories_without_states(self):
        for history in small_histories():
            found = list(all_lines(history))
            self.assertEqual(found, plain.lines(history))
            self.assertEqual(list(all_lines(history)), found)
            self.assertEqual({type(line) for line in found}, {tuple})

    def test_small_histories_with_states(self):
        for history in small_histories()[::2]:
            every = plain.lines(history)
            states = plain.states(history)
            for given in [(s,) for s in states] + list(zip(states[::2], reversed(states))):
                expected = [line for line in every if all(line[p] == k for p, k in given)]
                self.assertEqual(list(all_lines(history, *given)), expected)

    def test_the_first_of_very_many_come_at_once(self):
        with short_time():
            first = list(itertools.islice(all_lines(MANY), 500))
            self.assertEqual(first, list(itertools.islice(self.consistent(MANY), 500)))
            present = list(itertools.islice(all_lines(MANY, (0, 10), (3, 5)), 300))
        self.assertEqual(present, sorted(set(present)))
        for line in present:
            self.assertEqual((line[0], line[3], plain.orphans(MANY, line)), (10, 5, ()))

    def consistent(self, history):
        for line in itertools.product(*[range(last + 1) for last in plain.presents(history)]):
            if not plain.orphans(history, line):
                yield line

    def test_no_search_through_lines_that_do_not_fit(self):
        # Behind its first save, process 0 has what all others sent last.
        history = ((-1, -2, -3, -4, -5, 0),) + tuple((0,) * 9 + (m,) for m in range(1, 6))
        with short_time():
            found = list(all_lines(history, (0, 1)))
            self.assertEqual(found, [(1, 10, 10, 10, 10, 10)])
            self.assertEqual(len(list(all_lines(history, (0, 2)))), 1)
            self.assertEqual(len(list(all_lines(history, (0, 0), (1, 3), (2, 3), (3, 3)))), 121)

    def test_all_lines_of_dense_messages(self):
        with short_time():
            for history in (DENSE, answering(10)):
                self.assertEqual(list(all_lines(history)), plain.lines(history))

    def test_a_begun_iteration_does_not_disturb_another_one(self):
        pairs = list(zip(all_lines(H), all_lines(H)))
        self.assertEqual(pairs, [(line, line) for line in plain.lines(H)])


if __name__ == "__main__":
    unittest.main()

"""Falling back, and the states that are needed for it (points 2, 3 and 7)."""

import itertools
import unittest

from savelines.falling import (
    deletable_states, fall_back, fall_causes, fall_holds, needed_states, smaller_history,
)
from savelines.histories import is_history
from savelines.lines import lower_line
from tests import plain
from tests.samples import (
    DENSE, H, MANY, U, answering, longer_histories, odd_values, random_history, same_twice,
    short_time, small_histories, tracked_history,
)

TWENTY = answering(10)


def failures(history):
    """Return all ways in which processes can fail."""
    processes = range(len(history))
    return [some for n in range(len(history) + 1) for some in itertools.combinations(processes, n)]


class FallBackTest(unittest.TestCase):
    def test_example(self):
        found = [fall_back(H), fall_back(H, 0), fall_back(H, 1),
                 fall_back(((-1, 0, 2), (1, -2)), 0)]
        self.assertEqual(found, [(2, 2), (1, 2), (2, 1), (0, 0)])

    def test_edges(self):
        self.assertEqual([fall_back(((),)), fall_back(((),), 0)], [(1,), (0,)])
        self.assertEqual([fall_back(((0,),)), fall_back(((0,),), 0)], [(2,), (1,)])
        self.assertEqual(fall_back(((),) * 6, 5), (1, 1, 1, 1, 1, 0))
        self.assertEqual(fall_back(((),) * 6, *range(6)), (0,) * 6)
        self.assertEqual(fall_back(((0, 0, 1), (-1,)), 0), (2, 0))
        self.assertEqual(fall_back(((0, 0, 1), ()), 0), (2, 1))

    def test_processes_that_answer_one_another_fall_back_to_the_beginning(self):
        with short_time():
            self.assertEqual(fall_back(TWENTY, 0), (0, 0))
            self.assertEqual(fall_back(TWENTY, 1), (0, 0))
            self.assertEqual(fall_back(TWENTY), (11, 10))

    def test_small_histories(self):
        for history in small_histories():
            lines, last = plain.lines(history), plain.presents(history)
            for failed in failures(history):
                fitting = [line for line in lines if all(line[p] != last[p] for p in failed)]
                expected = plain.greatest(fitting)
                self.assertIn(expected, fitting)
                self.assertEqual(fall_back(history, *failed), expected)
                self.assertEqual(fall_back(history, *failed[::-1], *failed), expected)

    def test_a_number_twice(self):
        for history in (H, U, MANY, DENSE):
            self.assertEqual(fall_back(history, 1, 1), fall_back(history, 1))
            self.assertEqual(fall_back(history, 1, 0, 1, 0), fall_back(history, 0, 1))
            self.assertEqual(fall_back(history, *[1] * 200), fall_back(history, 1))

    def test_calls_change_nothing(self):
        for history in (H, U, MANY, DENSE, TWENTY):
            for failed in failures(history):
                self.assertIs(type(same_twice(fall_back, history, *failed)), tuple)

    def test_the_line_of_several_is_the_lower_line_of_each_alone(self):
        histories = small_histories()[::2] + [random_history(seed) for seed in range(40)]
        for history in histories + [MANY, DENSE, TWENTY]:
            for failed in failures(history)[1:]:
                alone = [fall_back(history, process) for process in failed]
                self.assertEqual(fall_back(history, *failed), lower_line(*alone))

    def test_very_many_lines(self):
        with short_time():
            self.assertEqual(fall_back(MANY, 0), (9, 10, 10, 10, 10, 10))
            self.assertEqual(fall_back(MANY, 1), (10, 9, 10, 0, 10, 10))
            self.assertEqual(fall_back(MANY, *range(6)), (9, 9, 9, 0, 5, 9))


class FallHoldsTest(unittest.TestCase):
    def test_example(self):
        self.assertEqual([fall_holds(H, (0, 1), (1, 1)), fall_holds(H, (0, 1), (0, 0))],
                         [True, False])

    def test_exactly_the_line(self):
        for history in small_histories()[::4]:
            for failed in failures(history)[::3]:
                expected = fall_back(history, *failed)
                for line in plain.every_line(history):
                    self.assertIs(fall_holds(history, failed, line), line == expected)
                self.assertIs(fall_holds(history, failed[::-1] * 2, expected), True)

    def test_wrong_values(self):
        wrong = [
            [1, 1], (True, 1), (1, True), (True, True), "11", ("1", "1"), {"1": 1}, (1,), (1, 1, 1),
            (1, 10 ** 29), (1, -1), (1, 3), (1, None), ((1,), (1,)), ((1, 1),), [(1, 1)], 1, None,
            (), [], (1, [1]),
        ]
        self.assertIs(fall_holds(H, (0, 1), (1, 1)), True)
        for value in wrong + odd_values() + [H]:
            self.assertIs(same_twice(fall_holds, H, (0, 1), value), False, value)

    def test_bools_as_zero(self):
        self.assertIs(fall_holds(U, (0,), (0, 0)), True)
        for value in ((False, 0), (0, False), (False, False), [0, 0]):
            self.assertIs(fall_holds(U, (0,), value), False)
        self.assertIs(fall_holds(((),), (0,), (0,)), True)
        self.assertIs(fall_holds(((),), (), (1,)), True)
        for value in ((False,), (True,), [0], 0, None):
            self.assertIs(fall_holds(((),), (0,), value), False)
            self.assertIs(fall_holds(((),), (), value), False)


class FallCausesTest(unittest.TestCase):
    def test_example(self):
        self.assertEqual(fall_causes(((-1, 0, 2), (1, -2)), 0), ((1, 2),))

    def test_edges(self):
        self.assertEqual(fall_causes(U), ())
        self.assertEqual(fall_causes(U, 1), ((0, 1),))
        self.assertEqual(fall_causes(U, 0, 1), ())
        self.assertEqual(fall_causes(U, 1, 1), ((0, 1),))
        self.assertEqual(fall_causes(((),)), ())
        self.assertEqual(fall_causes(((),), 0), ())
        self.assertEqual(fall_causes(H, 0), ())

    def test_the_smallest_message(self):
        self.assertEqual(fall_causes(((9, 4, 7), (-9, -7, -4)), 0), ((1, 4),))
        self.assertEqual(fall_causes(((4, 0, 9, 7), (-4, -9, -7)), 0), ((1, 7),))
        self.assertEqual(fall_causes(((4, 9, 7), (-4, 0, -9, -7)), 0), ((1, 4),))
        self.assertEqual(fall_causes(((4, 9, 0, 7, 8), (-4, 0, -8, -9, -7, 3), (-3,)), 0),
                         ((1, 7), (2, 3)))

    def test_a_message_that_is_received_before_the_line_is_no_cause(self):
        history = ((2, 0, 3), (-2, 0, -3))
        self.assertEqual(fall_back(history, 0), (1, 1))
        self.assertEqual(fall_causes(history, 0), ((1, 3),))

    def test_small_histories(self):
        for history in small_histories() + [random_history(seed) for seed in range(60)]:
            last = plain.presents(history)
            for failed in failures(history)[::2]:
                line = fall_back(history, *failed)
                undone = plain.behind(history, line)
                expected = []
                for process in range(len(history)):
                    if process not in failed and line[process] != last[process]:
                        expected.append((process, min(
                            m for m in plain.received(history)
                            if plain.spot(history, m) in undone
                            and plain.spot(history, -m) in undone
                            and plain.spot(history, -m)[0] == process)))
                found = same_twice(fall_causes, history, *failed)
                self.assertEqual(found, tuple(expected))

    def test_all_fall_back(self):
        with short_time():
            self.assertEqual(fall_causes(TWENTY, 0), ((1, 2),))
            self.assertEqual(fall_causes(TWENTY, 1), ((0, 1),))
            self.assertEqual(fall_causes(MANY, 1), ((3, 2),))


class NeededTest(unittest.TestCase):
    def test_example(self):
        found = [needed_states(((1, 0, -2), (2, -1, 0))),
                 deletable_states(((1, 0, -2), (2, -1, 0)))]
        self.assertEqual(found, [((0, 1), (1, 1)), ((0, 0), (1, 0))])

    def test_edges(self):
        self.assertEqual([needed_states(((),)), deletable_states(((),))], [((0, 0),), ()])
        self.assertEqual([needed_states(((0,),)), deletable_states(((0,),))],
                         [((0, 1),), ((0, 0),)])
        self.assertEqual(needed_states(((),) * 3), ((0, 0), (1, 0), (2, 0)))
        self.assertEqual([needed_states(U), deletable_states(U)], [((0, 0), (1, 0)), ((0, 1),)])
        self.assertEqual(needed_states(((0, 0, 1), (-1,))), ((0, 2), (1, 0)))

    def test_small_histories(self):
        for history in small_histories() + [random_history(seed) for seed in range(60)]:
            last = plain.presents(history)
            needed = set()
            for process in range(len(history)):
                needed.update(enumerate(fall_back(history, process)))
            saved = [state for state in plain.states(history) if state[1] != last[state[0]]]
            expected = tuple(state for state in saved if state in needed)
            self.assertEqual(same_twice(needed_states, history), expected)
            others = tuple(state for state in saved if state not in needed)
            self.assertEqual(same_twice(deletable_states, history), others)

    def test_no_later_line_has_a_state_that_can_be_deleted(self):
        histories = small_histories()[::3] + [random_history(seed, 20) for seed in range(40)]
        histories += [tracked_history(seed, 20) for seed in range(40)]
        for seed, history in enumerate(histories):
            deletable = deletable_states(history)
            for later in longer_histories(history, seed, 15):
                for failed in failures(later)[1:len(later) + 1]:
                    states = set(enumerate(fall_back(later, *failed)))
                    self.assertEqual(states.intersection(deletable), set())

    def test_what_can_be_deleted_can_be_deleted_later(self):
        for seed, history in enumerate(small_histories()[::5]):
            for later in longer_histories(history, seed, 12):
                self.assertLessEqual(set(deletable_states(history)), set(deletable_states(later)))

    def test_very_many_lines(self):
        with short_time():
            self.assertEqual(needed_states(MANY), (
                (0, 9), (1, 9), (2, 9), (3, 0), (3, 9), (4, 5), (4, 9), (5, 9)))
            self.assertEqual(len(deletable_states(MANY)), 60 - 8)
            self.assertEqual(needed_states(TWENTY), ((0, 0), (1, 0)))
            self.assertEqual(len(deletable_states(TWENTY)), 19)


class SmallerHistoryTest(unittest.TestCase):
    def test_example(self):
        self.assertEqual(smaller_history(((0, 0, 1), (-1,))), ((0, 1), (-1,)))

    def test_edges(self):
        self.assertEqual(smaller_history(((),)), ((),))
        self.assertEqual(smaller_history(((0,),)), ((0,),))
        self.assertEqual(smaller_history(((0,) * 60,)), ((0,),))
        self.assertEqual(smaller_history(((0, 3, 0, 4, 0, 5),)), ((3, 4, 0, 5),))
        self.assertEqual(smaller_history(H), H)
        self.assertEqual(smaller_history(U), ((-1, 2), (1, -2)))

    def test_processes_that_answer_one_another(self):
        with short_time():
            expected = tuple(tuple(event for event in row if event != 0) for row in TWENTY)
            self.assertEqual(smaller_history(TWENTY), expected)

    def test_only_the_saves_that_can_be_deleted_are_missing(self):
        for history in small_histories() + [random_history(seed) for seed in range(60)]:
            smaller = same_twice(smaller_history, history)
            deletable = deletable_states(history)
            for process, row in enumerate(history):
                number, expected = 0, []
                for event in row:
                    number += event == 0
                    if event != 0 or (process, number) not in deletable:
                        expected.append(event)
                self.assertEqual(smaller[process], tuple(expected))
            self.assertTrue(is_history(smaller))

    def test_processes_fall_back_to_the_same_places(self):
        for history in small_histories()[::2] + [random_history(seed) for seed in range(40)]:
            smaller = smaller_history(history)
            for failed in failures(history):
                self.assertEqual(self.messages_before(smaller, failed),
                                 self.messages_before(history, failed))
                self.assertEqual(self.saves_before(smaller, failed),
                                 self.saves_before(history, failed) - self.deleted(history, failed))

    def messages_before(self, history, failed):
        ahead = plain.before(history, fall_back(history, *failed))
        return [history[p][i] for p, i in ahead if history[p][i] != 0]

    def saves_before(self, history, failed):
        ahead = plain.before(history, fall_back(history, *failed))
        return sum(history[p][i] == 0 for p, i in ahead)

    def deleted(self, history, failed):
        line = fall_back(history, *failed)
        return sum(0 < k < line[p] for p, k in deletable_states(history))

    def test_nothing_more_can_be_deleted(self):
        for history in small_histories() + [MANY, DENSE, TWENTY]:
            smaller = smaller_history(history)
            self.assertEqual(smaller_history(smaller), smaller)
            self.assertTrue(all(k == 0 for p, k in deletable_states(smaller)))


if __name__ == "__main__":
    unittest.main()

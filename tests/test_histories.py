"""The states, the messages and the order of a history, and with_event (points 3 and 4)."""

import copy
import unittest

from savelines.errors import BadEvent, LineError
from savelines.histories import (
    history_error, is_history, place_of, received_at, sent_at, some_order, state_numbers,
    with_event,
)
from tests.samples import H, U, built, odd_values, random_history

# One process, six processes, and messages that nobody receives.
ALONE = ((0, 0, 3, 0),)
SIX = ((-4, 0), (4, 0, 5), (), (0, -5, 0, 0), (6,), (-6, 24))


def histories():
    """Return many histories of one to six processes."""
    fixed = [H, U, ALONE, SIX, ((),), ((),) * 6, ((0,) * 60,), ((-1,), (-2, 1), (2,))]
    return fixed + [random_history(seed) for seed in range(200)]


class StatesTest(unittest.TestCase):
    def test_state_numbers(self):
        self.assertEqual(state_numbers(((1, 0, -2), (2, -1, 0))), (2, 2))
        self.assertEqual(state_numbers(U), (2, 1))
        self.assertEqual(state_numbers(((),)), (1,))
        self.assertEqual(state_numbers(ALONE), (4,))
        self.assertEqual(state_numbers(SIX), (2, 2, 1, 4, 1, 1))
        self.assertEqual(state_numbers(((0,) * 60, ())), (61, 1))
        self.assertEqual(state_numbers(((1, 2, 3),)), (1,))

    def test_state_numbers_are_a_tuple_of_numbers(self):
        numbers = state_numbers(SIX)
        self.assertIs(type(numbers), tuple)
        self.assertEqual({type(number) for number in numbers}, {int})

    def test_state_numbers_of_random_histories(self):
        for history in histories():
            expected = tuple(1 + sum(event == 0 for event in row) for row in history)
            self.assertEqual(state_numbers(history), expected)
            self.assertEqual(state_numbers(history), expected)

    def test_place_of_examples(self):
        self.assertEqual([place_of(H, (1, k)) for k in range(3)], [0, 2, 3])
        self.assertEqual([place_of(H, (0, k)) for k in range(3)], [0, 1, 3])

    def test_place_of_edges(self):
        self.assertEqual([place_of(((),), (0, k)) for k in range(2)], [0, 0])
        self.assertEqual([place_of(ALONE, (0, k)) for k in range(5)], [0, 0, 1, 3, 4])
        self.assertEqual([place_of(((1, 2),), (0, k)) for k in range(2)], [0, 2])
        self.assertEqual([place_of(SIX, (3, k)) for k in range(5)], [0, 0, 2, 3, 4])
        self.assertEqual([place_of(SIX, (2, k)) for k in range(2)], [0, 0])
        full = ((0,) * 60,)
        self.assertEqual([place_of(full, (0, k)) for k in (0, 1, 60, 61)], [0, 0, 59, 60])

    def test_place_of_random_histories(self):
        for history in histories():
            for process, row in enumerate(history):
                places, number = {0: 0}, 0
                for place, event in enumerate(row):
                    if event == 0:
                        number += 1
                        places[number] = place
                places[number + 1] = len(row)
                for number, place in places.items():
                    self.assertEqual(place_of(history, (process, number)), place)
                    self.assertIs(type(place_of(history, (process, number))), int)


class MessagesTest(unittest.TestCase):
    def test_examples(self):
        found = [sent_at(H, 2), received_at(H, 2), received_at(H, 3)]
        self.assertEqual(found, [(1, 0), (0, 1), None])

    def test_intervals(self):
        self.assertEqual([sent_at(H, 1), received_at(H, 1)], [(0, 0), (1, 0)])
        self.assertEqual([sent_at(U, 1), received_at(U, 1)], [(1, 0), (0, 0)])
        self.assertEqual([sent_at(U, 2), received_at(U, 2)], [(0, 1), (1, 0)])
        self.assertEqual([sent_at(SIX, 4), received_at(SIX, 4)], [(1, 0), (0, 0)])
        self.assertEqual([sent_at(SIX, 5), received_at(SIX, 5)], [(1, 1), (3, 1)])
        history = ((0, 1, 0, 0, 2), (-2, 0, -1))
        self.assertEqual([sent_at(history, 1), received_at(history, 1)], [(0, 1), (1, 1)])
        self.assertEqual([sent_at(history, 2), received_at(history, 2)], [(0, 3), (1, 0)])

    def test_sent_and_not_received(self):
        self.assertEqual([sent_at(SIX, 24), received_at(SIX, 24)], [(5, 0), None])
        self.assertEqual([sent_at(ALONE, 3), received_at(ALONE, 3)], [(0, 2), None])

    def test_lowest_and_highest_message(self):
        history = ((-1, 24), (1, 0, -24))
        self.assertEqual([sent_at(history, 1), received_at(history, 1)], [(1, 0), (0, 0)])
        self.assertEqual([sent_at(history, 24), received_at(history, 24)], [(0, 0), (1, 1)])

    def test_values_that_are_no_message_of_the_history(self):
        full = (tuple(range(1, 25)), tuple(range(-24, 0)), (0,))
        for history in (H, U, full, ((),)):
            numbers = [0, -1, -2, -24, 25, -25, 1000, 10 ** 29, -10 ** 29]
            for value in odd_values() + numbers + [(0, 1), (1, 0), H]:
                before = copy.deepcopy(value)
                self.assertIsNone(sent_at(history, value), (history, value))
                self.assertIsNone(received_at(history, value), (history, value))
                self.assertEqual(repr(value), repr(before))
        for message in (3, 4, 24):
            self.assertIsNone(sent_at(H, message))
            self.assertIsNone(received_at(H, message))

    def test_random_histories(self):
        for history in histories():
            for message in range(1, 25):
                for found, wanted in ((sent_at, message), (received_at, -message)):
                    expected = None
                    for process, row in enumerate(history):
                        for place, event in enumerate(row):
                            if event == wanted:
                                expected = (process, list(row[:place]).count(0))
                    self.assertEqual(found(history, message), expected)
                    self.assertEqual(found(history, message), expected)


class SomeOrderTest(unittest.TestCase):
    def check(self, history, expected):
        self.assertEqual(list(some_order(history)), expected)
        self.assertEqual(list(some_order(history)), expected)

    def test_example(self):
        expected = [(0, 1), (0, 0), (1, 2), (0, -2), (1, -1), (1, 0)]
        self.check(((1, 0, -2), (2, -1, 0)), expected)

    def test_no_event(self):
        self.check(((),), [])
        self.check(((), (), ()), [])

    def test_one_process(self):
        self.check(ALONE, [(0, 0), (0, 0), (0, 3), (0, 0)])

    def test_the_lowest_process_goes_on_as_soon_as_it_can(self):
        self.check(((-2, 0), (-1, 2, 0), (1, 0)), [
            (2, 1), (1, -1), (1, 2), (0, -2), (0, 0), (1, 0), (2, 0)])
        self.check(((0, -1, 0), (0, 1, 0)), [(0, 0), (1, 0), (1, 1), (0, -1), (0, 0), (1, 0)])
        self.check(((1,), (-1, 0), (0,)), [(0, 1), (1, -1), (1, 0), (2, 0)])

    def test_six_processes(self):
        self.check(SIX, [
            (1, 4), (0, -4), (0, 0), (1, 0), (1, 5), (3, 0), (3, -5), (3, 0), (3, 0), (4, 6),
            (5, -6), (5, 24)])

    def test_a_chain_upwards(self):
        self.check(((-1,), (-2, 1), (-3, 2), (3,)), [
            (3, 3), (2, -3), (2, 2), (1, -2), (1, 1), (0, -1)])

    def test_pairs(self):
        for pair in some_order(SIX):
            self.assertIs(type(pair), tuple)
            self.assertEqual([type(part) for part in pair], [int, int])

    def test_a_begun_iteration_does_not_disturb_another_one(self):
        pairs = list(zip(some_order(H), some_order(H)))
        self.assertEqual(pairs, [(pair, pair) for pair in some_order(H)])
        self.assertEqual(len(pairs), 6)

    def test_random_histories(self):
        for history in histories():
            rest = [list(row) for row in history]
            sent, expected = set(), []
            while any(rest):
                able = [p for p, row in enumerate(rest) if row and (row[0] >= 0 or -row[0] in sent)]
                expected.append((able[0], rest[able[0]].pop(0)))
                sent.add(expected[-1][1])
            self.check(history, expected)


class WithEventTest(unittest.TestCase):
    def check_refused(self, history, process, event):
        before = copy.deepcopy(event)
        for _ in range(2):
            with self.assertRaises(LineError) as caught:
                with_event(history, process, event)
            self.assertIs(type(caught.exception), BadEvent)
            self.assertIs(caught.exception.event, event)
        self.assertEqual(repr(event), repr(before))

    def test_example(self):
        self.assertEqual(with_event(((1, 0), ()), 1, -1), ((1, 0), (-1,)))

    def test_save(self):
        self.assertEqual(with_event(H, 0, 0), ((1, 0, -2, 0), (2, -1, 0)))
        self.assertEqual(with_event(((),), 0, 0), ((0,),))

    def test_sending(self):
        self.assertEqual(with_event(H, 1, 24), ((1, 0, -2), (2, -1, 0, 24)))
        self.assertEqual(with_event(((), (), ()), 1, 1), ((), (1,), ()))

    def test_receipt(self):
        self.assertEqual(with_event(((), (0, 5), ()), 0, -5), ((-5,), (0, 5), ()))
        self.assertEqual(with_event(((), (), (), (), (), (7,)), 4, -7),
                         ((), (), (), (), (-7,), (7,)))

    def test_each_process(self):
        for processes in range(1, 7):
            for process in range(processes):
                expected = [()] * processes
                expected[process] = (0,)
                self.assertEqual(with_event(((),) * processes, process, 0), tuple(expected))

    def test_result_is_a_history_of_tuples(self):
        history = with_event(with_event(((), ()), 0, 1), 1, -1)
        self.assertTrue(is_history(history))
        self.assertIs(type(history), tuple)
        self.assertEqual([type(row) for row in history], [tuple, tuple])

    def test_receipts_refused(self):
        self.check_refused(((1,), ()), 1, -2)
        self.check_refused(((1,), ()), 0, -1)
        self.check_refused(((1,), (-1,), ()), 1, -1)
        self.check_refused(((1,), (-1,), ()), 2, -1)
        self.check_refused(((),), 0, -1)
        self.check_refused(((24,), ()), 1, -25)

    def test_sendings_refused(self):
        self.check_refused(((1,), ()), 0, 1)
        self.check_refused(((1,), ()), 1, 1)
        self.check_refused(((1,), (-1,)), 1, 1)
        self.check_refused(((1,), ()), 0, 25)
        self.check_refused(((1,), ()), 0, -25)

    def test_no_event_beyond_the_sixtieth(self):
        history = ((0,) * 30, (0,) * 29)
        self.assertEqual(with_event(history, 1, 0), ((0,) * 30, (0,) * 30))
        self.assertEqual(with_event(history, 0, 3), ((0,) * 30 + (3,), (0,) * 29))
        full = ((0,) * 30, (0,) * 30)
        for event in (0, 1, -1, 25):
            self.check_refused(full, 0, event)
            self.check_refused(full, 1, event)

    def test_other_values_refused(self):
        for value in odd_values() + [25, -25, 10 ** 29, H]:
            self.check_refused(((1,), ()), 1, value)
        self.check_refused(((0,), ()), 1, False)
        self.check_refused(((0,), ()), 1, True)

    def test_a_given_history_stays(self):
        history = ((1, 0), ())
        with_event(history, 1, -1)
        with_event(history, 0, 0)
        self.assertEqual(history, ((1, 0), ()))
        self.assertEqual(with_event(history, 1, -1), ((1, 0), (-1,)))

    def test_step_by_step(self):
        for history in histories():
            self.assertEqual(built(history, list(some_order(history))), history)

    def test_refused_exactly_if_it_is_no_history(self):
        for seed in range(40):
            history = random_history(seed, 20)
            for process, row in enumerate(history):
                for event in range(-26, 27):
                    rows = list(history)
                    rows[process] = row + (event,)
                    if history_error(tuple(rows)) is None:
                        self.assertEqual(with_event(history, process, event), tuple(rows))
                    else:
                        self.check_refused(history, process, event)


if __name__ == "__main__":
    unittest.main()

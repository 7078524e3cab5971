"""is_history and history_error (points 3 and 4)."""

import copy
import itertools
import unittest

from savelines.histories import history_error, is_history
from tests.samples import H, U, deep, odd_values, random_history, spoiled

# Values that stand for each kind of error alone.
ALONE = {
    ("history",): [(), [], None, "", "abc", 0, 1, True, {}, [(0,)], [[0]], ((),) * 7, (0,) * 7],
    ("row", 0): [(0,), (None,), ([],), ([0],), ("",), ({},), (True,), ("0",), (0, (), ())],
    ("row", 1): [((), []), ((0,), None), ((1,), [-1]), ((), "", ())],
    ("row", 5): [((), (), (), (), (), [])],
    ("events",): [((0,) * 61,), ((0,) * 60, (0,)), ((0,),) * 5 + ((0,) * 56,), ((0,) * 500,)],
    ("event", 0, 0): [((25,),), ((-25,),), ((True,),), ((False,),), ((None,),), (("1",),),
                      (((),),), (([],),), (({},),), (((1,),),), ((10 ** 29,),), ((-10 ** 29,),)],
    ("event", 0, 1): [((0, True),), ((0, False),), ((1, "."),), ((0, [0], None),)],
    ("event", 1, 2): [((1,), (-1, 0, 25)), ((), (0, 0, -25), (True,))],
    ("twice", 0, 1): [((1, 1),), ((24, 24),)],
    ("twice", 0, 2): [((1, 0, 1),), ((1, 2, 1, 2),)],
    ("twice", 1, 0): [((1,), (1,)), ((1, 2), (2, 1)), ((-24,), (-24,), (24,))],
    ("twice", 2, 1): [((1,), (-1,), (0, -1)), ((1,), (-1,), (0, 1))],
    ("unsent", 0, 0): [((-1,),), ((-24,), ()), ((-1,), (0, 2)), ((-1, 1),), ((-1, 1), (0,))],
    ("unsent", 0, 1): [((1, -1),), ((0, -1, -2),)],
    ("unsent", 1, 0): [((1,), (-2,)), ((0,), (-3, 3), (0,))],
    ("unsent", 1, 1): [((1,), (-1, -2), (-3,)), ((), (2, -2), ())],
    ("circle",): [
        ((-1, 2), (-2, 1)),
        ((0, -1, 0, 2, 0), (-2, 1)),
        ((-3, 1), (-1, 2), (-2, 3)),
        ((-1, 2), (-3, 1), (-2, 3)),
        ((-1, 2, 0), (4,), (0, -2, 0, 1), (-4,)),
        ((5, -3, 1), (-1, 6, 2), (-2, 3, -5)),
    ],
}

HISTORIES = [
    H, U, ((),), ((0,),), ((1,),), ((1, 2, 3),), ((), ()), ((),) * 6, ((0,) * 60,),
    ((0,) * 10,) * 6, ((0,) * 59, (24,)), ((24,), (-24,)), ((-24,), (24,)), ((1,), (-1,)),
    ((-1,), (1,)), ((1, -2), (2, -1)), ((-1,), (-2, 1), (2,)), ((-1,), (-2, 1), (-3, 2), (3,)),
    (tuple(range(1, 25)), tuple(range(-24, 0))),
    (tuple(range(-24, 0)), tuple(range(1, 25)), (0,) * 12),
    ((-1, -2, -3, -4, -5), (1,), (2,), (3,), (4,), (5,)),
    ((1, 2, 0), (), (-2,), (0, -1)),
]


def order_exists(rows):
    """Return whether the rows can be put into one order: no event comes before itself."""
    spots = [(p, i) for p, row in enumerate(rows) for i in range(len(row))]
    later = {(p, i): [(p, i + 1)] if i + 1 < len(rows[p]) else [] for p, i in spots}
    for (p, i), (q, j) in itertools.product(spots, spots):
        if rows[p][i] > 0 and rows[q][j] == -rows[p][i]:
            later[(p, i)].append((q, j))
    for start in spots:
        reached, waiting = set(), list(later[start])
        while waiting:
            spot = waiting.pop()
            if spot not in reached:
                reached.add(spot)
                waiting.extend(later[spot])
        if start in reached:
            return False
    return True


def first_error(rows):
    """Return what history_error has to return for 1 to 6 tuples, by the words of point 4."""
    if sum(len(row) for row in rows) > 60:
        return ("events",)
    spots = [(p, i, event) for p, row in enumerate(rows) for i, event in enumerate(row)]
    for p, i, event in spots:
        if type(event) is not int or abs(event) > 24:
            return ("event", p, i)
    for at, (p, i, event) in enumerate(spots):
        if event != 0 and any(event == before for _, _, before in spots[:at]):
            return ("twice", p, i)
    for p, i, event in spots:
        if event < 0 and not any(q != p and other == -event for q, _, other in spots):
            return ("unsent", p, i)
    return None if order_exists(rows) else ("circle",)


class HistoryErrorTest(unittest.TestCase):
    def check(self, value, expected):
        before = copy.deepcopy(value)
        for _ in range(2):
            error = history_error(value)
            self.assertEqual(error, expected, value)
            self.assertIs(is_history(value), expected is None, value)
        if error is not None:
            self.assertIs(type(error), tuple)
            self.assertEqual([type(part) for part in error], [str, int, int][:len(error)])
        self.assertEqual(repr(value), repr(before))

    def test_examples(self):
        values = [((1, 0, -2), (2, -1, 0)), ((1,), (1,)), ((-1, 2), (-2, 1))]
        self.assertEqual([is_history(value) for value in values], [True, False, False])
        values = [((1, -1),), ((-1, 2), (-2, 1)), ((0, True),)]
        errors = [("unsent", 0, 1), ("circle",), ("event", 0, 1)]
        self.assertEqual([history_error(value) for value in values], errors)

    def test_histories(self):
        for history in HISTORIES:
            self.check(history, None)

    def test_each_error_alone(self):
        for expected, values in ALONE.items():
            for value in values:
                self.check(value, expected)

    def test_number_of_processes(self):
        for processes in range(1, 7):
            self.check(((),) * processes, None)
        for processes in (0, 7, 8, 1000):
            self.check(((),) * processes, ("history",))

    def test_number_of_events(self):
        self.check(((0,) * 60,), None)
        self.check(((0,) * 61,), ("events",))
        self.check(((0,) * 30, (), (0,) * 30), None)
        self.check(((0,) * 30, (), (0,) * 31), ("events",))

    def test_message_numbers(self):
        self.check(((24,), (-24,)), None)
        self.check(((25,), (-25,)), ("event", 0, 0))
        self.check(((-24,), (25,)), ("event", 1, 0))
        self.check(((24,), (-25,)), ("event", 1, 0))

    def test_bools_are_no_events(self):
        self.check(((False,),), ("event", 0, 0))
        self.check(((1, 0), (0, False)), ("event", 1, 1))
        self.check(((1,), (-1, True)), ("event", 1, 1))
        self.check(((True,), (-1,)), ("event", 0, 0))

    def test_lists_are_no_rows_and_no_history(self):
        self.check([(1, 0), (-1,)], ("history",))
        self.check(((1, 0), [-1]), ("row", 1))
        self.check(((1, [0]), (-1,)), ("event", 0, 1))

    def test_saves_and_unreceived_messages_may_repeat_and_stay(self):
        self.check(((0, 0, 0), (0, 0)), None)
        self.check(((1, 2), (3,), (-2,)), None)

    def test_receipt_in_an_earlier_row_than_its_sending(self):
        self.check(((-1, 0), (0, 1)), None)
        self.check(((-1,), (-2, 1), (2,)), None)

    def test_a_receipt_of_an_own_message_is_unsent(self):
        self.check(((1, -1), ()), ("unsent", 0, 1))
        self.check(((-1, 1), ()), ("unsent", 0, 0))
        self.check(((0,), (2, 0, -2)), ("unsent", 1, 2))

    def test_the_first_place_of_each_kind(self):
        self.check(((), 0, [], ()), ("row", 1))
        self.check(((0, 1), (0, None), (30,)), ("event", 1, 1))
        self.check(((1, 2), (3, 2, 1)), ("twice", 1, 1))
        self.check(((3,), (-1, -2), (-4,)), ("unsent", 1, 0))

    def test_of_two_errors_the_one_listed_first(self):
        self.check([0], ("history",))
        self.check((0,) * 7, ("history",))
        self.check(((0,) * 70,) * 7, ("history",))
        self.check(((0,) * 61, []), ("row", 1))
        self.check(((None,), (), "a"), ("row", 2))
        self.check(((1, 1), 5), ("row", 1))
        self.check(((None,) * 61,), ("events",))
        self.check(((1,) * 61,), ("events",))
        self.check(((-1,) * 30, (-2,) * 31), ("events",))
        self.check(((1, 1), (0, True)), ("event", 1, 1))
        self.check(((-1,), (0, 25)), ("event", 1, 1))
        self.check(((-1, 2), (-2, 1), (None,)), ("event", 2, 0))
        self.check(((-3,), (2, 2)), ("twice", 1, 1))
        self.check(((-1, -1),), ("twice", 0, 1))
        self.check(((-1, 2), (-2, 1), (4,), (0, 4)), ("twice", 3, 1))
        self.check(((-1, 2), (-2, 1), (0, -3)), ("unsent", 2, 1))

    def test_circles(self):
        self.check(((-1, 2), (-2, 1)), ("circle",))
        self.check(((0, 3), (-1, 2), (-3, -2, 1)), ("circle",))
        self.check(((-1, 2), (-2, 3), (-3, 1)), ("circle",))
        self.check(((2, -1), (-2, 1)), None)
        self.check(((2, -1), (-2, 3), (-3, 1)), None)
        self.check(((-6, 1), (-1, 2), (-2, 3), (-3, 4), (-4, 5), (-5, 6)), ("circle",))
        self.check(((1, -6), (-1, 2), (-2, 3), (-3, 4), (-4, 5), (-5, 6)), None)

    def test_odd_values(self):
        for value in odd_values():
            self.assertIs(is_history(value), False)
            self.assertIsNotNone(history_error(value))

    def test_odd_values_as_rows_and_events(self):
        for value in odd_values():
            self.check(((0, value),), ("event", 0, 1))
            if not isinstance(value, tuple):
                self.check(((0,), value), ("row", 1))
                self.check(value, ("history",))

    def test_deep_values(self):
        self.check(deep(0, 1), ("row", 0))
        self.check(deep(0, 2), None)
        self.check(deep(0, 3), ("event", 0, 0))
        self.check(deep(0, 20), ("event", 0, 0))
        self.check(deep([], 19), ("event", 0, 0))
        self.check(deep((), 1), None)
        self.check(deep((), 2), ("event", 0, 0))

    def test_random_histories(self):
        for seed in range(300):
            history = random_history(seed)
            self.assertIsNone(first_error(history))
            self.check(history, None)

    def test_random_values(self):
        kinds = set()
        for seed in range(3000):
            value = spoiled(random_history(seed, 12), seed)
            expected = first_error(value)
            kinds.add(expected and expected[0])
            self.check(value, expected)
        self.assertEqual(kinds, {None, "event", "twice", "unsent", "circle"})

    def test_all_small_values(self):
        rows = [row for k in range(4) for row in itertools.product((-2, -1, 0, 1, 2), repeat=k)]
        for value in itertools.product(rows, rows):
            if sum(len(row) for row in value) <= 4:
                self.check(value, first_error(value))


if __name__ == "__main__":
    unittest.main()

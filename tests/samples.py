"""Values that several tests use, and histories made step by step."""

import contextlib
import copy
import random
import signal

from savelines.histories import is_history, with_event

H = ((1, 0, -2), (2, -1, 0))
U = ((-1, 0, 2), (1, -2))

# Over a million lines: six processes with nine saves each, and three messages.
MANY = (
    (0, 0, 0, 1, 0, 0, 0, 0, 0, 0),
    (0, 0, -1, 0, 0, 0, 0, 0, 0, 0, 2),
    (0,) * 9,
    (-2,) + (0,) * 9,
    (0,) * 5 + (-3,) + (0,) * 4,
    (0,) * 9 + (3,),
)


def answering(rounds):
    """Return a history of two processes that answer one another, with a save before each answer.

    Process 0 has 2, 4, .. to send and process 1 has 1, 3, ..; each save is useless, and the
    zigzag from the last save of process 0 to its first one has all messages.
    """
    first = [(-(2 * k - 1), 0, 2 * k) for k in range(1, rounds + 1)]
    second = [(2 * k - 1, -2 * k, 0) for k in range(1, rounds + 1)]
    return (sum(first, ()), sum(second, ())[:-1])


# Twelve messages go each way, in an order in which any of them can follow on many others.
DENSE = (
    (1, -2, 3, -4, 0, 5, -6, 7, -8, 0, 9, -10, 11, -12, 0, 13, -14, 15, -16, 0, 17, -18, 19, -20,
     0, 21, -22, 23, -24, 0),
    (2, -1, 4, -3, 0, 6, -5, 8, -7, 0, 10, -9, 12, -11, 0, 14, -13, 16, -15, 0, 18, -17, 20, -19,
     0, 22, -21, 24, -23, 0),
)


class TooSlow(Exception):
    """What should have been done in a short time was not."""


@contextlib.contextmanager
def short_time(seconds=20):
    """Raise TooSlow in the rows of the with statement when so many seconds have passed."""
    def stop(number, frame):
        raise TooSlow(seconds)
    held = signal.signal(signal.SIGALRM, stop)
    signal.alarm(seconds)
    try:
        yield
    finally:
        signal.alarm(0)
        signal.signal(signal.SIGALRM, held)


def same_twice(function, *values, **named):
    """Return what two calls give alike, and check that they change none of the values."""
    held = repr((values, named))
    kept = copy.deepcopy((values, named))
    first = function(*values, **named)
    second = function(*values, **named)
    if repr(first) != repr(second):
        raise AssertionError((function.__name__, first, second))
    if repr((values, named)) != held or repr(kept) != held:
        raise AssertionError((function.__name__, values, named))
    return first


def deep(value, levels):
    """Return value inside so many tuples."""
    for _ in range(levels):
        value = (value,)
    return value


def odd_values():
    """Return values of every kind that are neither a history nor an event nor a message."""
    return [
        None, True, False, -1000, 61, 10 ** 30 - 1, -(10 ** 30) + 1, "", "a", "0", "1", "-1", "+1",
        "history", "a\nb", "x" * 2000, (), ("1",), (1,), (0,), (None,), [], [1], [0], [[]], ((), []),
        [(0,)], {}, {"a": 1}, {"a": [1, (2,)]}, {"0": ()}, deep(0, 19), deep([], 19), deep((), 19),
        tuple(range(1000)), list(range(1000)), ValueError("a"),
    ]


def random_history(seed, most_events=60):
    """Return a history that was made step by step, the same for each seed."""
    rng = random.Random(seed)
    rows = [[] for _ in range(rng.randint(1, 6))]
    numbers = rng.sample(range(1, 25), 24)
    open_messages = []
    for _ in range(rng.randint(0, most_events)):
        process = rng.randrange(len(rows))
        receivable = [m for m, sender in open_messages if sender != process]
        choice = rng.random()
        if choice < 0.4 and receivable:
            message = rng.choice(receivable)
            open_messages = [pair for pair in open_messages if pair[0] != message]
            rows[process].append(-message)
        elif choice < 0.75 and numbers:
            message = numbers.pop()
            open_messages.append((message, process))
            rows[process].append(message)
        else:
            rows[process].append(0)
    return tuple(tuple(row) for row in rows)


def tracked_history(seed, most_events=30):
    """Return a history in which a process saves before a receipt if it has sent since a save."""
    rng = random.Random(seed)
    history = ((),) * rng.randint(1, 6)
    has_sent = [False] * len(history)
    open_messages, numbers = [], rng.sample(range(1, 25), 24)
    while sum(map(len, history)) < most_events:
        process = rng.randrange(len(history))
        receivable = [m for m, sender in open_messages if sender != process]
        choice = rng.random()
        if choice < 0.5 and receivable:
            message = rng.choice(receivable)
            open_messages = [pair for pair in open_messages if pair[0] != message]
            if has_sent[process]:
                history = with_event(history, process, 0)
            history = with_event(history, process, -message)
            has_sent[process] = False
        elif choice < 0.85 and numbers:
            open_messages.append((numbers[-1], process))
            history = with_event(history, process, numbers.pop())
            has_sent[process] = True
        else:
            history = with_event(history, process, 0)
            has_sent[process] = False
    return history


def longer_histories(history, seed, steps):
    """Return so many histories, each with one more event than the one before it."""
    rng = random.Random(seed)
    found = []
    for _ in range(steps):
        sent = [(e, p) for p, row in enumerate(history) for e in row if e > 0]
        used = [abs(event) for row in history for event in row]
        process = rng.randrange(len(history))
        events = [0] + [m for m in range(1, 25) if m not in used][:1]
        events += 3 * [-m for m, p in sent if p != process and used.count(m) == 1]
        history = with_event(history, process, rng.choice(events))
        found.append(history)
    return found


def busy_history(seed):
    """Return a history of two to four processes with three to five messages, all received."""
    rng = random.Random(seed)
    rows = [[] for _ in range(rng.choice([2, 2, 3, 4]))]
    unsent = rng.sample(range(1, 25), rng.choice([3, 4, 5]))
    open_messages = []
    while unsent or open_messages:
        process = rng.randrange(len(rows))
        receivable = [m for m, sender in open_messages if sender != process]
        choice = rng.random()
        if choice < 0.4 and receivable:
            message = rng.choice(receivable)
            open_messages = [pair for pair in open_messages if pair[0] != message]
            rows[process].append(-message)
        elif choice < 0.7 and unsent:
            open_messages.append((unsent[-1], process))
            rows[process].append(unsent.pop())
        elif choice > 0.6 and (rows[process][-1:] < [0] or choice > 0.97):
            # Mostly behind a receipt or at the front, where saves make more zigzags.
            rows[process].append(0)
    return tuple(tuple(row) for row in rows)


def small_histories():
    """Return many histories of one to six processes with few lines and few messages."""
    fixed = [
        H, U, ((),), ((0,),), ((0, 0, 0),), ((1, 0, 2),), ((), ()), ((),) * 6, ((0,), (), (0,)),
        ((1,), (-1,)), ((-1,), (1,)), ((1, 0), (0, -1)), ((0, 0, 1), (-1,)), answering(2),
        ((1,), (-1, 2), (-2,)), ((1,), (2, -1), (-2,)), ((1, 0, 2, 0), (0,)),
        ((-3, 0, 1), (-1, 0, 2), (3, -2)), ((-1, 2), (1, 0, -2, 0, 3), (-3, 0)),
    ]
    drawn = [random_history(seed, 4 + seed // 4 % 12) for seed in range(150)]
    drawn += [busy_history(seed) for seed in range(250)]
    drawn += [spoiled(answering(2) + ((0,), ())[:seed % 3], seed) for seed in range(300)]
    return fixed + [history for history in drawn if is_history(history) and is_small(history)]


def is_small(history):
    """Return whether a plain search through the history is short."""
    receipts = sum(event < 0 for row in history for event in row)
    lines = 1
    for row in history:
        lines *= row.count(0) + 2
    return receipts <= 5 and lines <= 600


def spoiled(history, seed):
    """Return rows like those of the history, with a few changes that may make it none."""
    rng = random.Random(seed)
    rows = [list(row) for row in history]
    for _ in range(rng.randint(1, 3)):
        row = rng.choice(rows)
        kind = rng.randrange(5)
        if kind == 0 and row:
            row[rng.randrange(len(row))] = rng.randint(-26, 26)
        elif kind == 1:
            row.insert(rng.randint(0, len(row)), rng.randint(-25, 25))
        elif kind == 2 and row:
            del row[rng.randrange(len(row))]
        elif kind == 3:
            rng.shuffle(row)
        elif row:
            row[rng.randrange(len(row))] = rng.choice([True, False, "1", None, (1,), [0], {}])
    return tuple(tuple(row) for row in rows)


def built(rows, order):
    """Return the history that with_event gives when the events are added in this order."""
    history = tuple(() for _ in rows)
    for process, event in order:
        history = with_event(history, process, event)
    return history


def random_plan(seed, most_steps=60, processes=None):
    """Return a number of processes and a plan, which is short enough under every rule."""
    rng = random.Random(seed)
    processes = processes or rng.randint(1, 6)
    weights = rng.choice([(5, 4, 1), (5, 3, 3), (3, 3, 1), (1, 1, 6), (4, 8, 1)])
    plan, open_messages, sent, events = [], [], 0, 0
    for _ in range(rng.randint(0, most_steps)):
        process = rng.randrange(processes)
        receivable = [m for m, sender in open_messages if sender != process]
        word = rng.choices(["receive", "send", "save"], weights)[0]
        # A receipt counts twice, as if the rule always wanted a save before it.
        if word == "receive" and receivable and events <= 58:
            message = rng.choice(receivable)
            open_messages = [pair for pair in open_messages if pair[0] != message]
            plan.append(("receive", process, message))
            events += 2
        elif word == "send" and sent < 24 and events < 60:
            sent += 1
            open_messages.append((sent, process))
            plan.append(("send", process))
            events += 1
        elif word == "save" and events < 60:
            plan.append(("save", process))
            events += 1
    return processes, tuple(plan)


def raised(function, *values, **named):
    """Return the error that the call raises, as its name and its fields; check that it does."""
    try:
        found = function(*values, **named)
    except (ValueError, LookupError) as error:
        return (type(error).__name__, *vars(error).values())
    raise AssertionError((values, named, found))

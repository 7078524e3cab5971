"""Values that several tests use, and histories made step by step."""

import random

from savelines.histories import with_event

H = ((1, 0, -2), (2, -1, 0))
U = ((-1, 0, 2), (1, -2))


def deep(value, levels):
    """Return value inside so many tuples."""
    for _ in range(levels):
        value = (value,)
    return value


def odd_values():
    """Return values of every kind that are neither a history nor an event nor a message."""
    return [
        None, True, False, -1000, 61, 10 ** 30 - 1, -(10 ** 30) + 1, "", "a", "0", "1", "-1", "+1",
        "history", "a\nb", "x" * 2000, (), ("1",), (1,), (0,), (None,), [], [1], [0], [[]], ((), []),
        [(0,)], {}, {"a": 1}, {"a": [1, (2,)]}, {"0": ()}, deep(0, 19), deep([], 19), deep((), 19),
        tuple(range(1000)), list(range(1000)), ValueError("a"),
    ]


def random_history(seed, most_events=60):
    """Return a history that was made step by step, the same for each seed."""
    rng = random.Random(seed)
    rows = [[] for _ in range(rng.randint(1, 6))]
    numbers = rng.sample(range(1, 25), 24)
    open_messages = []
    for _ in range(rng.randint(0, most_events)):
        process = rng.randrange(len(rows))
        receivable = [m for m, sender in open_messages if sender != process]
        choice = rng.random()
        if choice < 0.4 and receivable:
            message = rng.choice(receivable)
            open_messages = [pair for pair in open_messages if pair[0] != message]
            rows[process].append(-message)
        elif choice < 0.75 and numbers:
            message = numbers.pop()
            open_messages.append((message, process))
            rows[process].append(message)
        else:
            rows[process].append(0)
    return tuple(tuple(row) for row in rows)


def spoiled(history, seed):
    """Return rows like those of the history, with a few changes that may make it none."""
    rng = random.Random(seed)
    rows = [list(row) for row in history]
    for _ in range(rng.randint(1, 3)):
        row = rng.choice(rows)
        kind = rng.randrange(5)
        if kind == 0 and row:
            row[rng.randrange(len(row))] = rng.randint(-26, 26)
        elif kind == 1:
            row.insert(rng.randint(0, len(row)), rng.randint(-25, 25))
        elif kind == 2 and row:
            del row[rng.randrange(len(row))]
        elif kind == 3:
            rng.shuffle(row)
        elif row:
            row[rng.randrange(len(row))] = rng.choice([True, False, "1", None, (1,), [0], {}])
    return tuple(tuple(row) for row in rows)


def built(rows, order):
    """Return the history that with_event gives when the events are added in this order."""
    history = tuple(() for _ in rows)
    for process, event in order:
        history = with_event(history, process, event)
    return history

"""Causal zigzags, and which states come before others (DOC.md, point 8)."""

from savelines.histories import all_states
from savelines.trips import trips_of
from savelines.zigzags import distances_to, zigzag_steps


def is_causal(history, messages):
    """Return whether each message of the zigzag is received before the next one is sent."""
    return all([
        is_received_first(history, message, then)
        for message, then in zip(messages, messages[1:])
    ])


def is_received_first(history, message, then):
    """Return whether one process receives the message and sends the other one later."""
    return any([-message in row and then in row[row.index(-message):] for row in history])


def causal_steps(history, trips):
    """Return a dict of the messages that may stand behind each message in a causal zigzag."""
    return {
        message: [then for then in trips if is_received_first(history, message, then)]
        for message in trips
    }


def first_apart(history, trips, steps, state):
    """Return for each process its first state from which no way by steps leads to the state."""
    numbers = [0 for row in history]
    for message in distances_to(trips, steps, state):
        sender, interval = trips[message][0]
        numbers[sender] = max(numbers[sender], interval + 1)
    return numbers


def vector_by(history, trips, steps, state):
    """Return the vector of the state; steps are those of causal zigzags."""
    process, number = state
    numbers = first_apart(history, trips, steps, state)
    # The earlier states of its own process come before the state without any message.
    return tuple(numbers[:process] + [number] + numbers[process + 1:])


def comes_before(history, one, other):
    """Return whether the state one comes before the state other."""
    process, number = one
    return number < vector_of(history, other)[process]


def vector_of(history, state):
    """Return for each process the number of its first state that does not come before state."""
    trips = trips_of(history)
    return vector_by(history, trips, causal_steps(history, trips), state)


def is_tracked(history):
    """Return whether one state comes before another wherever a zigzag leads from it to it."""
    return find_untracked(history) is None


def find_untracked(history):
    """Return the smallest (one, other) with a zigzag, but no causal one, or None."""
    trips = trips_of(history)
    zigzag, causal = zigzag_steps(trips), causal_steps(history, trips)
    pairs = []
    for other in all_states(history):
        vector = vector_by(history, trips, causal, other)
        numbers = first_apart(history, trips, zigzag, other)
        # From the states between these two only zigzags that are not causal lead to this one.
        pairs.extend([
            ((process, number), other)
            for process, number in enumerate(vector)
            if number < numbers[process]
        ])
    return min(pairs, default=None)

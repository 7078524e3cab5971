"""Zigzags, and lines through given states (DOC.md, point 6)."""

from savelines.errors import NotTogether, TwoStates
from savelines.histories import all_states
from savelines.kinds import is_number
from savelines.lines import (
    is_consistent, is_line, least_line_with, limits_with, lowered, raised,
)
from savelines.trips import is_received_before, is_sent_behind, trips_of


def is_zigzag(history, one, other, value):
    """Return whether value, any value, is a zigzag from the state one to the state other."""
    trips = trips_of(history)
    if not isinstance(value, tuple) or len(value) == 0:
        return False
    if not all([is_number(message) and message in trips for message in value]):
        return False
    return (
        is_sent_behind(trips[value[0]], one)
        and all([is_step(trips, message, then) for message, then in zip(value, value[1:])])
        and is_received_before(trips[value[-1]], other)
    )


def is_step(trips, message, then):
    """Return whether one message may stand behind the other in a zigzag."""
    # A zigzag goes on from a receipt as from the state in front of the interval of the receipt.
    return is_sent_behind(trips[then], trips[message][1])


def zigzag_steps(trips):
    """Return a dict of the messages that may stand behind each message in a zigzag."""
    return {
        message: [then for then in trips if is_step(trips, message, then)]
        for message in trips
    }


def distances_to(trips, steps, state):
    """Return how many messages the shortest way from each message to the state has.

    A way goes by steps, a dict of the messages that may stand behind each message, and ends with
    a receipt before the state. Messages without one are left out.
    """
    distances = {}
    count = 1
    found = [message for message in trips if is_received_before(trips[message], state)]
    while found:
        for message in found:
            distances[message] = count
        count += 1
        found = [
            message for message in trips
            if message not in distances and any([then in distances for then in steps[message]])
        ]
    return distances


def find_zigzag(history, one, other):
    """Return the shortest zigzag, of these the smallest one; None if there is none."""
    trips = trips_of(history)
    steps = zigzag_steps(trips)
    distances = distances_to(trips, steps, other)
    choices = [message for message in distances if is_sent_behind(trips[message], one)]
    if not choices:
        return None
    zigzag = [nearest(choices, distances)]
    while distances[zigzag[-1]] > 1:
        choices = [then for then in steps[zigzag[-1]] if then in distances]
        zigzag.append(nearest(choices, distances))
    return tuple(zigzag)


def nearest(messages, distances):
    """Return the message with the smallest distance, of these the smallest one."""
    return min([(distances[message], message) for message in messages])[1]


def is_useless(history, state):
    """Return whether no consistent line contains the state."""
    return least_line_with(history, (state,)) is None


def useless_states(history):
    """Return the ascending tuple of all useless states."""
    return tuple([state for state in all_states(history) if is_useless(history, state)])


def line_through(history, *states, first=True):
    """Return the least consistent line with the states; the greatest one if first is False."""
    process = process_of_two(history, states)
    if process is not None:
        raise TwoStates(process)
    pair = pair_apart(history, states)
    if pair is not None:
        raise NotTogether(pair[0], pair[1])
    low, high = limits_with(history, states)
    if first:
        return raised(trips_of(history), low)
    return lowered(trips_of(history), high)


def process_of_two(history, states):
    """Return the smallest process of which two different states are given, or None."""
    for process in range(len(history)):
        if len({number for owner, number in states if owner == process}) > 1:
            return process
    return None


def pair_apart(history, states):
    """Return the smallest pair of the states with a zigzag from the one to the other, or None."""
    for one in sorted(set(states)):
        for other in sorted(set(states)):
            if find_zigzag(history, one, other) is not None:
                return (one, other)
    return None


def verdict(history, *states):
    """Return a consistent line with the states, or a zigzag between them, with its word."""
    line = least_line_with(history, states)
    if line is not None:
        return ("line", line)
    one, other = pair_apart(history, states)
    return ("zigzag", one, other, find_zigzag(history, one, other))


def verdict_holds(history, states, value):
    """Return whether value, any value, is a correct verdict on the states."""
    if not isinstance(value, tuple):
        return False
    if len(value) == 2 and value[0] == "line":
        return is_line_with(history, states, value[1])
    if len(value) == 4 and value[0] == "zigzag":
        one, other, messages = value[1:]
        return (
            is_given(states, one)
            and is_given(states, other)
            and is_zigzag(history, one, other, messages)
        )
    return False


def is_line_with(history, states, value):
    """Return whether value, any value, is a consistent line that contains the states."""
    return (
        is_line(history, value)
        and is_consistent(history, value)
        and all([value[process] == number for process, number in states])
    )


def is_given(states, value):
    """Return whether value, any value, is one of the states."""
    # (False, True) equals (0, 1), but is no state.
    return isinstance(value, tuple) and all([is_number(part) for part in value]) and value in states

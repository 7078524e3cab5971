"""The messages that are received, with the intervals in which they are sent and received.

The trip of a message is ((sender, interval), (receiver, interval)). Whether a message is sent
or received before a state depends on nothing but the interval and the number of the state.
"""

from savelines.histories import happened_at


def trips_of(history):
    """Return a dict of the trips of all messages that are received, in ascending order."""
    messages = sorted([-event for row in history for event in row if event < 0])
    return {
        message: (happened_at(history, message), happened_at(history, -message))
        for message in messages
    }


def is_sent_behind(trip, state):
    """Return whether the process of the state sends the message behind the state."""
    sender, interval = trip[0]
    process, number = state
    return sender == process and interval >= number


def is_received_before(trip, state):
    """Return whether the process of the state receives the message before the state."""
    receiver, interval = trip[1]
    process, number = state
    return receiver == process and interval < number

"""Lines: one state of each process, and whether they fit together (DOC.md, point 5)."""

from savelines.histories import happened_at, place_of, state_numbers
from savelines.kinds import is_number_within
from savelines.trips import trips_of


def is_line(history, value):
    """Return whether value, any value, is a line of the history."""
    if not isinstance(value, tuple) or len(value) != len(history):
        return False
    presents = state_numbers(history)
    return all([is_number_within(number, 0, present) for number, present in zip(value, presents)])


def orphans(history, line):
    """Return the ascending tuple of the messages received before the line and sent behind it."""
    trips = trips_of(history)
    return tuple([message for message in trips if is_orphan(trips[message], line)])


def is_orphan(trip, line):
    """Return whether the message of this trip is an orphan of the line."""
    (sender, sent), (receiver, received) = trip
    return received < line[receiver] and sent >= line[sender]


def is_consistent(history, line):
    """Return whether the line has no orphan."""
    return len(orphans(history, line)) == 0


def in_transit(history, line):
    """Return the ascending tuple of the messages sent, but not received before the line."""
    sent = sorted([event for row in history for event in row if event > 0])
    return tuple([
        message for message in sent
        if is_before(happened_at(history, message), line)
        and not is_before(happened_at(history, -message), line)
    ])


def is_before(happened, line):
    """Return whether what happened in (process, interval) is before the line."""
    # None stands for the receipt of a message that is never received.
    return happened is not None and happened[1] < line[happened[0]]


def undone_events(history, line):
    """Return the number of events of each process that are behind the line."""
    return tuple([
        len(history[process]) - place_of(history, (process, number))
        for process, number in enumerate(line)
    ])


def lower_line(*lines):
    """Return the line with the smallest number that each process has in one of the lines."""
    return tuple([min(numbers) for numbers in zip(*lines)])


def upper_line(*lines):
    """Return the line with the greatest number that each process has in one of the lines."""
    return tuple([max(numbers) for numbers in zip(*lines)])


def all_lines(history, *states):
    """Yield, in ascending order, all consistent lines that contain the states."""
    trips = trips_of(history)
    low, high = limits_with(history, states)
    line = least_between(trips, low, high)
    while line is not None:
        yield line
        line = line_after(trips, low, high, line)


def line_after(trips, low, high, line):
    """Return the smallest consistent line from low to high that is greater than line, or None."""
    # A line is the smaller, the longer the part at its front that agrees with the given one.
    for process in reversed(range(len(line))):
        if line[process] < high[process]:
            kept = line[:process]
            least = kept + (line[process] + 1,) + low[process + 1:]
            found = least_between(trips, least, kept + high[process:])
            if found is not None:
                return found
    return None


def limits_with(history, states):
    """Return the least and the greatest number of each process in a line with the states."""
    low = [0 for row in history]
    high = list(state_numbers(history))
    for process, number in states:
        # Two different states of one process leave no number between these two.
        low[process] = max(low[process], number)
        high[process] = min(high[process], number)
    return tuple(low), tuple(high)


def least_between(trips, low, high):
    """Return the least consistent line from low to high, or None."""
    line = raised(trips, low)
    if any([number > most for number, most in zip(line, high)]):
        return None
    return line


def least_line_with(history, states):
    """Return the least consistent line that contains the states, or None."""
    low, high = limits_with(history, states)
    return least_between(trips_of(history), low, high)


def raised(trips, low):
    """Return the least consistent line that is nowhere below low."""
    numbers = list(low)
    changed = True
    while changed:
        changed = False
        for trip in trips.values():
            if is_orphan(trip, numbers):
                sender, sent = trip[0]
                numbers[sender] = sent + 1
                changed = True
    return tuple(numbers)


def lowered(trips, high):
    """Return the greatest consistent line that is nowhere above high."""
    numbers = list(high)
    changed = True
    while changed:
        changed = False
        for trip in trips.values():
            if is_orphan(trip, numbers):
                receiver, received = trip[1]
                numbers[receiver] = received
                changed = True
    return tuple(numbers)

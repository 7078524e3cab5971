"""The line to which processes fall back, and the saves that it needs (DOC.md, point 7)."""

from savelines.histories import all_states, state_numbers, state_places
from savelines.lines import is_line, lowered
from savelines.trips import trips_of


def fall_back(history, *failed):
    """Return the greatest consistent line without the present state of a failed process."""
    high = [
        present - 1 if process in failed else present
        for process, present in enumerate(state_numbers(history))
    ]
    return lowered(trips_of(history), high)


def fall_holds(history, failed, value):
    """Return whether value, any value, is the line to which the processes fall back."""
    return is_line(history, value) and value == fall_back(history, *failed)


def fall_causes(history, *failed):
    """Return (process, message) for all processes that fall back though they have not failed."""
    line = fall_back(history, *failed)
    return tuple([
        (process, smallest_undone(history, line, process))
        for process, present in enumerate(state_numbers(history))
        if process not in failed and line[process] < present
    ])


def smallest_undone(history, line, process):
    """Return the smallest message to the process that is sent and received behind the line."""
    return min([
        message for message, ((sender, sent), (receiver, received)) in trips_of(history).items()
        if receiver == process and received >= line[receiver] and sent >= line[sender]
    ])


def needed_states(history):
    """Return the ascending tuple of the saved states to which the failure of one process leads."""
    presents = state_numbers(history)
    return tuple(sorted({
        (process, number)
        for failed in range(len(history))
        for process, number in enumerate(fall_back(history, failed))
        if number < presents[process]
    }))


def deletable_states(history):
    """Return the ascending tuple of the states that are neither present nor needed."""
    presents = state_numbers(history)
    needed = needed_states(history)
    return tuple([
        state for state in all_states(history)
        if state[1] < presents[state[0]] and state not in needed
    ])


def smaller_history(history):
    """Return the history without the saves that can be deleted."""
    deletable = deletable_states(history)
    return tuple([
        row_without(row, [number for owner, number in deletable if owner == process])
        for process, row in enumerate(history)
    ])


def row_without(row, numbers):
    """Return the row without the saves with these numbers."""
    # The beginning is no event: its place is that of the first event, which stays.
    places = [state_places(row)[number] for number in numbers if number > 0]
    return tuple([event for place, event in enumerate(row) if place not in places])

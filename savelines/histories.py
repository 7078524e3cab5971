"""Histories, what keeps a value from being one, and their states (DOC.md, point 4)."""

from savelines.bounds import MAX_EVENTS, MAX_MESSAGES, MAX_PROCESSES
from savelines.errors import BadEvent
from savelines.kinds import is_number_within


def is_history(value):
    """Return whether value, any value, is a history."""
    return history_error(value) is None


def history_error(value):
    """Return the first error of value, any value; None if it is a history."""
    # The order counts: each of these takes for granted that those before it found nothing.
    return (
        shape_error(value)
        or event_error(value)
        or twice_error(value)
        or unsent_error(value)
        or circle_error(value)
    )


def shape_error(value):
    """Return the first error of the tuple, its rows and their lengths, or None."""
    if not isinstance(value, tuple) or not 1 <= len(value) <= MAX_PROCESSES:
        return ("history",)
    for process, row in enumerate(value):
        if not isinstance(row, tuple):
            return ("row", process)
    if event_count(value) > MAX_EVENTS:
        return ("events",)
    return None


def event_error(rows):
    """Return the error of the first item of the rows that is no event, or None."""
    for process, place, event in placed_events(rows):
        if not is_number_within(event, -MAX_MESSAGES, MAX_MESSAGES):
            return ("event", process, place)
    return None


def twice_error(rows):
    """Return the error of the first event, other than a save, that occurs again, or None."""
    seen = set()
    for process, place, event in placed_events(rows):
        if event in seen:
            return ("twice", process, place)
        if event != 0:
            seen.add(event)
    return None


def unsent_error(rows):
    """Return the error of the first receipt of a message that no other process sends, or None."""
    for process, place, event in placed_events(rows):
        if event < 0 and not is_sent_by_another(rows, process, -event):
            return ("unsent", process, place)
    return None


def circle_error(rows):
    """Return the error of events that cannot be put into an order, or None."""
    # some_order stops where every process waits for a message that is still to be sent.
    if len(list(some_order(rows))) < event_count(rows):
        return ("circle",)
    return None


def event_count(rows):
    """Return how many events the rows have in all."""
    return sum([len(row) for row in rows])


def placed_events(rows):
    """Yield (process, place, event), row by row."""
    for process, row in enumerate(rows):
        for place, event in enumerate(row):
            yield (process, place, event)


def is_sent_by_another(rows, process, message):
    """Return whether the message is sent in the row of another process."""
    return any([message in row for sender, row in enumerate(rows) if sender != process])


def state_numbers(history):
    """Return the number of the present state of each process."""
    return tuple([row.count(0) + 1 for row in history])


def all_states(history):
    """Return the ascending list of all states."""
    return [
        (process, number)
        for process, present in enumerate(state_numbers(history))
        for number in range(present + 1)
    ]


def place_of(history, state):
    """Return how many events of the process happened before the state."""
    process, number = state
    places = state_places(history[process])
    return places[number]


def state_places(row):
    """Return the places of all states of a row: of its beginning, its saves and its end."""
    saves = [place for place, event in enumerate(row) if event == 0]
    return [0, *saves, len(row)]


def sent_at(history, message):
    """Return (process, interval) of the sending; None if message, any value, is not sent."""
    if not is_number_within(message, 1, MAX_MESSAGES):
        return None
    return happened_at(history, message)


def received_at(history, message):
    """Return (process, interval) of the receipt; None if message, any value, is not received."""
    if not is_number_within(message, 1, MAX_MESSAGES):
        return None
    return happened_at(history, -message)


def happened_at(history, event):
    """Return (process, interval) of an event other than a save; None if it did not happen."""
    # Properties come by here, so nothing is called off a row by a name that attributes have, such
    # as index: that is read as a call of something that is held.
    for process, row in enumerate(history):
        interval = 0
        for other in row:
            if other == event:
                return (process, interval)
            if other == 0:
                interval += 1
    return None


def some_order(history):
    """Yield all events as (process, event), each time of the lowest process that can go on."""
    places = [0] * len(history)
    happened = {}
    process = ready_process(history, places, happened)
    while process is not None:
        event = history[process][places[process]]
        places[process] += 1
        happened[event] = True
        yield (process, event)
        process = ready_process(history, places, happened)


def ready_process(history, places, happened):
    """Return the lowest process whose next event need not wait for a sending, or None."""
    for process, row in enumerate(history):
        if places[process] < len(row):
            event = row[places[process]]
            if event >= 0 or -event in happened:
                return process
    return None


def with_event(history, process, event):
    """Return the history with event, any value, at the end of the row of the process."""
    longer = history[:process] + (history[process] + (event,),) + history[process + 1:]
    if not is_history(longer):
        raise BadEvent(event)
    return longer

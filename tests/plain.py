"""Plain searches, word by word as the document says, to compare the package with."""

import itertools


def presents(history):
    """Return the number of the present state of each process."""
    return [1 + sum(event == 0 for event in row) for row in history]


def states(history):
    """Return all states in ascending order."""
    return [(p, k) for p, last in enumerate(presents(history)) for k in range(last + 1)]


def behind(history, line):
    """Return the events behind the line, each as (process, place)."""
    found = []
    for process, row in enumerate(history):
        places = [0] + [i for i, event in enumerate(row) if event == 0] + [len(row)]
        found += [(process, i) for i in range(places[line[process]], len(row))]
    return found


def before(history, line):
    """Return the events before the line, each as (process, place)."""
    spots = {(p, i) for p, row in enumerate(history) for i in range(len(row))}
    return sorted(spots - set(behind(history, line)))


def spot(history, event):
    """Return (process, place) of an event that is no save, or None."""
    for process, row in enumerate(history):
        if event in row:
            return (process, row.index(event))
    return None


def interval(history, event):
    """Return (process, interval) of an event that is no save."""
    process, place = spot(history, event)
    return (process, history[process][:place].count(0))


def received(history):
    """Return the messages that are received, in ascending order."""
    return sorted(-event for row in history for event in row if event < 0)


def orphans(history, line):
    """Return the orphans of the line."""
    ahead = before(history, line)
    return tuple(
        m for m in received(history)
        if spot(history, -m) in ahead and spot(history, m) not in ahead)


def every_line(history):
    """Return all lines in ascending order."""
    return list(itertools.product(*[range(last + 1) for last in presents(history)]))


def lines(history, *given):
    """Return all consistent lines that contain the given states, in ascending order."""
    return [
        line for line in every_line(history)
        if all(line[p] == k for p, k in given) and not orphans(history, line)]


def least(found):
    """Return the smallest number of each process in the lines."""
    return tuple(min(numbers) for numbers in zip(*found))


def greatest(found):
    """Return the greatest number of each process in the lines."""
    return tuple(max(numbers) for numbers in zip(*found))


def is_zigzag(history, one, other, messages):
    """Return whether a tuple of received messages is a zigzag."""
    if not messages:
        return False
    process, number = one
    for message in messages:
        sender, sent = interval(history, message)
        if sender != process or sent < number:
            return False
        process, number = interval(history, -message)
    return process == other[0] and number < other[1]


def is_causal(history, messages):
    """Return whether the receiver of each message has it before it sends the next one."""
    return all(
        spot(history, -m)[0] == spot(history, n)[0] and spot(history, -m) < spot(history, n)
        for m, n in zip(messages, messages[1:]))


def zigzags(history):
    """Return all zigzags between any states without a message twice, the shortest first."""
    messages = received(history)
    return [
        chosen
        for length in range(1, len(messages) + 1)
        for chosen in itertools.permutations(messages, length)
        if is_zigzag(history, (spot(history, chosen[0])[0], 0), last_state(history, chosen), chosen)]


def last_state(history, messages):
    """Return the present state of the process that receives the last message."""
    process = spot(history, -messages[-1])[0]
    return (process, presents(history)[process])


def find(history, found, one, other):
    """Return the first of these zigzags that leads from one to other, or None."""
    return next((z for z in found if is_zigzag(history, one, other, z)), None)


def comes_before(history, found, one, other):
    """Return whether one comes before other; found is all that zigzags gives."""
    if one[0] == other[0] and one[1] < other[1]:
        return True
    causal = [z for z in found if is_causal(history, z)]
    return find(history, causal, one, other) is not None


NAMES = ("none", "sent", "always", "rounds")
MAX_STEPS, MAX_EVENTS, MAX_MESSAGES = 60, 60, 24


def planned(name, processes, plan):
    """Return the history of the plan under the rule with this name, and its forced saves."""
    rows = [[] for _ in range(processes)]
    numbers, notes, forced = [0] * processes, [], 0
    for word, process, *rest in plan:
        row = rows[process]
        if word == "save":
            row.append(0)
            numbers[process] += 1
        elif word == "send":
            notes.append(numbers[process])
            row.append(len(notes))
        else:
            note = notes[rest[0] - 1]
            if wants_save(name, row, numbers[process], note):
                row.append(0)
                forced += 1
            row.append(-rest[0])
            numbers[process] = max(numbers[process], note)
    return tuple(tuple(row) for row in rows), forced


def wants_save(name, row, number, note):
    """Return whether the rule wants a save behind this row, before a message with the note."""
    last = max([i for i, event in enumerate(row) if event == 0], default=-1)
    since = row[last + 1:]
    return {
        "none": False,
        "sent": any(event > 0 for event in since),
        "always": len(since) > 0,
        "rounds": note > number,
    }[name]


def is_number(value, low, high):
    """Return whether the value is a number from low to high."""
    return type(value) is int and low <= value <= high


def answer(name, processes, limit, steps, step):
    """Return what a recorder on which the steps stand returns for the step, which has its form.

    An error is returned as the tuple of its name and its fields.
    """
    history = planned(name, processes, steps)[0]
    word, process, *rest = step
    sent = [(e, p) for p, row in enumerate(history) for e in row if e > 0]
    if len(steps) >= limit:
        return ("TooManySteps", limit)
    if not is_number(process, 0, processes - 1):
        return ("NoProcess", process)
    if word == "send" and len(sent) == MAX_MESSAGES:
        return ("Full",)
    if word == "receive":
        by_others = [m for m, sender in sent if sender != process]
        taken = [-e for row in history for e in row if e < 0]
        if not any(is_number(rest[0], m, m) for m in by_others if m not in taken):
            return ("NoMessage", rest[0])
    longer = planned(name, processes, steps + (step,))[0]
    before, after = sum(map(len, history)), sum(map(len, longer))
    if after > MAX_EVENTS:
        return ("Full",)
    return len(sent) + 1 if word == "send" else after - before


def has_form(step):
    """Return whether the value has the form of a step."""
    return type(step) is tuple and (
        len(step) == 2 and step[0] in ("save", "send") or len(step) == 3 and step[0] == "receive")


def steps_text(name, processes, steps):
    """Return the text of a recorder."""
    text = f"{processes} {name}:"
    for word, process, *rest in steps:
        text += " " + {"save": "v", "send": "s", "receive": "r"}[word] + str(process)
        text += "".join(f".{message}" for message in rest)
    return text


def row_text(row):
    """Return the text of a row."""
    return " ".join("." if e == 0 else f"+{e}" if e > 0 else str(e) for e in row) or "_"

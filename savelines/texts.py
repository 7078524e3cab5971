"""The texts of histories and lines (DOC.md, point 11)."""

from savelines.bounds import MAX_MESSAGES
from savelines.errors import BadHistory, BadText
from savelines.histories import history_error
from savelines.kinds import is_number_within
from savelines.words import number_of, words_of

SAVE = "."
NO_EVENTS = "_"
NEXT_ROW = "|"


def history_text(history):
    """Return the text of the history."""
    return " | ".join([row_text(row) for row in history])


def row_text(row):
    """Return the text of a row."""
    if len(row) == 0:
        return NO_EVENTS
    return " ".join([event_text(event) for event in row])


def event_text(event):
    """Return the text of an event."""
    if event == 0:
        return SAVE
    return f"{event:+d}"


def line_text(line):
    """Return the text of the line."""
    return ",".join([str(number) for number in line])


def parse_history(value):
    """Return the history whose text value, any value, is."""
    if not isinstance(value, str):
        raise BadText(None)
    rows = tuple([row_of(words) for words in rows_of_words(words_of(value))])
    error = history_error(rows)
    if error is not None:
        raise BadHistory(error)
    return rows


def rows_of_words(words):
    """Return the list of the words of each row."""
    rows = [[]]
    for index, word in enumerate(words):
        if not can_follow(rows[-1], word):
            raise BadText(index)
        if word == NEXT_ROW:
            rows.append([])
        else:
            rows[-1].append(word)
    if len(rows[-1]) == 0:
        raise BadText(len(words))
    return rows


def can_follow(row, word):
    """Return whether the word is in its place behind these words of a row."""
    if word == NEXT_ROW:
        return len(row) > 0
    if word == NO_EVENTS:
        return len(row) == 0
    return row != [NO_EVENTS] and event_of(word) is not None


def row_of(words):
    """Return the row whose words these are."""
    return tuple([event_of(word) for word in words if word != NO_EVENTS])


def event_of(word):
    """Return the event whose text the word is, or None."""
    if word == SAVE:
        return 0
    message = number_of(word[1:])
    if not is_number_within(message, 1, MAX_MESSAGES):
        return None
    if word[0] == "+":
        return message
    if word[0] == "-":
        return -message
    return None

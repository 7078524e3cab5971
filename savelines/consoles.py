"""A console, which works on a recorder by commands (DOC.md, point 11)."""

from savelines.errors import (
    BadProcesses, Full, NoMessage, NoProcess, NotTogether, NothingToUndo, TooManySteps, TwoStates,
)
from savelines.histories import state_numbers
from savelines.texts import history_text, line_text
from savelines.words import number_of, numbers_of, words_of
from savelines.zigzags import line_through

UNKNOWN = "unknown command"
MAX_PAIRS = 20

# How many numbers stand behind the word of a command; behind "fail" any number of them may stand.
NUMBERS = {
    "save": 1, "send": 1, "receive": 2, "undo": 0,
    "history": 0, "text": 0, "forced": 0, "useless": 0,
}


class Console:
    """Commands to one recorder, and their answers."""

    def __init__(self, recorder):
        self.recorder = recorder
        self.pairs = ()

    def execute(self, line):
        """Do the command that line, any value, is, and return the answer."""
        told = line if isinstance(line, str) else None
        answer = UNKNOWN if told is None else self.answer_to(words_of(told))
        self.pairs = (self.pairs + ((told, answer),))[-MAX_PAIRS:]
        return answer

    def transcript(self):
        """Return the last pairs of a line and its answer, the oldest one first."""
        return self.pairs

    def answer_to(self, words):
        """Do the command of these words, and return the answer, also that to an error."""
        try:
            return self.obey(words[0], words[1:])
        except TooManySteps:
            return "error TooManySteps"
        except NoProcess:
            return "error NoProcess"
        except NoMessage:
            return "error NoMessage"
        except Full:
            return "error Full"
        except NothingToUndo:
            return "error NothingToUndo"
        except BadProcesses:
            return "error BadProcesses"
        except TwoStates:
            return "error TwoStates"
        except NotTogether:
            return "error NotTogether"

    def obey(self, command, words):
        """Do the command with the words behind it, and return the answer."""
        if command == "line":
            return self.line_with([numbers_of(word) for word in words])
        numbers = [number_of(word) for word in words]
        if None in numbers:
            return UNKNOWN
        if command == "fail":
            return line_text(self.recorder.set_failed(tuple(numbers)))
        if command not in NUMBERS or len(numbers) != NUMBERS[command]:
            return UNKNOWN
        if len(numbers) == 0:
            return self.tell(command)
        return str(self.step(command, numbers))

    def step(self, command, numbers):
        """Do a step, and return the number that the method of the recorder returns."""
        if command == "save":
            return self.recorder.save(numbers[0])
        if command == "send":
            return self.recorder.send(numbers[0])
        return self.recorder.receive(numbers[0], numbers[1])

    def tell(self, command):
        """Return the answer to a command without numbers."""
        if command == "undo":
            return str(self.recorder.undo())
        if command == "history":
            return history_text(self.recorder.history)
        if command == "text":
            return self.recorder.text
        if command == "forced":
            return str(self.recorder.forced)
        return states_text(self.recorder.useless)

    def line_with(self, states):
        """Return the answer to a command for the least line; None stands for a wrong word."""
        if len(states) == 0 or not all([is_pair(state) for state in states]):
            return UNKNOWN
        history = self.recorder.history
        if not all([is_state(history, state) for state in states]):
            return "error NoState"
        return line_text(line_through(history, *states))


def is_pair(numbers):
    """Return whether the numbers of a word, or None, are two."""
    return numbers is not None and len(numbers) == 2


def is_state(history, pair):
    """Return whether the pair of numbers from 0 on is a state of the history."""
    process, number = pair
    return process < len(history) and number <= state_numbers(history)[process]


def states_text(states):
    """Return the text of the states."""
    if len(states) == 0:
        return "none"
    return " ".join([f"{process}.{number}" for process, number in states])

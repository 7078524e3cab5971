"""Recorders, which keep a history that grows step by step (DOC.md, point 10)."""

from savelines.bounds import MAX_EVENTS, MAX_MESSAGES, MAX_PROCESSES
from savelines.errors import (
    BadProcesses, BadStep, BadText, Full, LineError, NoMessage, NoProcess, NoRule, NothingToUndo,
    Refused, TooManySteps,
)
from savelines.falling import fall_back
from savelines.histories import event_count, received_at, sent_at
from savelines.kinds import is_number_within
from savelines.rules import rule_named, run_plan
from savelines.words import number_of, numbers_of, words_of
from savelines.zigzags import useless_states

LETTERS = {"save": "v", "send": "s", "receive": "r"}


class Recorder:
    """A history that grows step by step, under a rule."""

    LIMIT = 60

    def __init__(self, processes, *, rule="none", limit=60):
        self.processes = processes
        self.name = rule
        self.limit = limit
        self.fallen = ()
        self.stand_at(())

    def stand_at(self, plan):
        """Let exactly these steps stand, all of them done under a new rule."""
        # What the rule remembers follows from the steps alone, so nothing is left of others.
        rule = rule_named(self.name, self.processes)
        rows = run_plan(rule, plan)
        if event_count(rows) > MAX_EVENTS:
            raise Full()
        self.plan = plan
        self.rows = rows
        self.wanted = rule.forced

    def add_step(self, step):
        """Do a step behind those that stand, and return how many events it adds."""
        before = event_count(self.rows)
        self.stand_at(self.plan + (step,))
        return event_count(self.rows) - before

    def check_step(self, process):
        """Raise an error if no step can be done, or none of this process, any value."""
        if len(self.plan) >= self.limit:
            raise TooManySteps(self.limit)
        if not is_number_within(process, 0, self.processes - 1):
            raise NoProcess(process)

    def save(self, process):
        """Let the process save by itself, and return how many events this adds."""
        self.check_step(process)
        return self.add_step(("save", process))

    def send(self, process):
        """Let the process send a message, and return its number."""
        self.check_step(process)
        message = sent_count(self.rows) + 1
        if message > MAX_MESSAGES:
            raise Full()
        self.add_step(("send", process))
        return message

    def receive(self, process, message):
        """Let the process receive the message, and return how many events this adds."""
        self.check_step(process)
        if not is_on_its_way(self.rows, process, message):
            raise NoMessage(message)
        return self.add_step(("receive", process, message))

    def undo(self):
        """Take back the last step, and return how many steps stand then."""
        if len(self.plan) == 0:
            raise NothingToUndo()
        self.stand_at(self.plan[:-1])
        return len(self.plan)

    def take(self, step):
        """Do a step that has the form of one, with any values behind its word."""
        if step[0] == "save":
            self.save(step[1])
        elif step[0] == "send":
            self.send(step[1])
        else:
            self.receive(step[1], step[2])

    def done(self, *steps, keep=True):
        """Do the steps, and return the history then; take them back if keep is False."""
        for index, step in enumerate(steps):
            if not has_step_form(step):
                raise BadStep(index)
        before = self.plan
        for index, step in enumerate(steps):
            try:
                self.take(step)
            except (LineError, NoProcess, NoMessage) as error:
                self.stand_at(before)
                raise Refused(index) from error
        rows = self.rows
        if not keep:
            self.stand_at(before)
        return rows

    @property
    def history(self):
        """The present history."""
        return self.rows

    @property
    def steps(self):
        """The tuple of the steps that stand."""
        return self.plan

    @property
    def forced(self):
        """The number of saves in the history that the rule wanted."""
        return self.wanted

    @property
    def failed(self):
        """The ascending tuple of the processes that have failed."""
        return self.fallen

    @failed.setter
    def failed(self, value):
        """Let these processes, any value, be those that have failed."""
        if not is_ascending_below(value, self.processes):
            raise BadProcesses(value)
        self.fallen = value

    @property
    def line(self):
        """The line to which the processes fall back."""
        return fall_back(self.rows, *self.fallen)

    @property
    def useless(self):
        """The ascending tuple of the useless states."""
        return useless_states(self.rows)

    def set_failed(self, value):
        """Let these processes, any value, have failed, and return the line then."""
        self.failed = value
        return self.line

    def walk(self):
        """Yield the histories after 0, 1, 2, .. of the steps that stand at the beginning."""
        plan = self.plan
        for count in range(len(plan) + 1):
            yield run_plan(rule_named(self.name, self.processes), plan[:count])

    @property
    def text(self):
        """The number of processes, the name of the rule, and the steps that stand."""
        return " ".join([f"{self.processes} {self.name}:"] + step_texts(self.plan))

    @classmethod
    def read(cls, value, *, limit=60):
        """Return a new recorder on which the steps of this text, any value, were done."""
        if not isinstance(value, str):
            raise BadText(None)
        words = words_of(value)
        processes = number_of(words[0])
        if not is_number_within(processes, 1, MAX_PROCESSES):
            raise BadText(0)
        if len(words) == 1 or not words[1].endswith(":"):
            raise BadText(1)
        try:
            recorder = cls(processes, rule=words[1][:-1], limit=limit)
        except NoRule as error:
            raise BadText(1) from error
        for index, word in enumerate(words[2:], start=2):
            do_word(recorder, word, index)
        return recorder

    def copy(self):
        """Return a recorder that is like this one, and independent from then on."""
        other = Recorder(self.processes, rule=self.name, limit=self.limit)
        other.stand_at(self.plan)
        other.fallen = self.fallen
        return other

    def __len__(self):
        return len(self.plan)

    def __str__(self):
        return f"{self.processes} processes, {event_count(self.rows)} events, {self.wanted} forced"

    def __eq__(self, other):
        return (
            isinstance(other, Recorder)
            and self.rows == other.rows
            and self.name == other.name
            and self.fallen == other.fallen
        )


def sent_count(history):
    """Return how many messages are sent."""
    return len([event for row in history for event in row if event > 0])


def is_on_its_way(history, process, message):
    """Return whether the message, any value, is one that the process can receive."""
    sent = sent_at(history, message)
    return sent is not None and sent[0] != process and received_at(history, message) is None


def is_ascending_below(value, count):
    """Return whether value, any value, is an ascending tuple of numbers from 0 to below count."""
    return (
        isinstance(value, tuple)
        and all([is_number_within(number, 0, count - 1) for number in value])
        and all([number < then for number, then in zip(value, value[1:])])
    )


def has_step_form(value):
    """Return whether value, any value, is a tuple of a word of steps and so many values."""
    if not isinstance(value, tuple):
        return False
    if len(value) == 2:
        return value[0] in ("save", "send")
    return len(value) == 3 and value[0] == "receive"


def step_texts(steps):
    """Return the list of the texts of the steps."""
    return [
        LETTERS[step[0]] + ".".join([str(number) for number in step[1:]])
        for step in steps
    ]


def step_of(word):
    """Return the step whose text the word is, whether it can be done or not; None if none."""
    numbers = numbers_of(word[1:])
    if numbers is None:
        return None
    for name, letter in LETTERS.items():
        step = (name, *numbers)
        if word[0] == letter and has_step_form(step):
            return step
    return None


def do_word(recorder, word, index):
    """Do the step whose text the word with this index is on the recorder."""
    step = step_of(word)
    if step is None:
        raise BadText(index)
    try:
        recorder.done(step)
    except Refused as error:
        raise BadText(index) from error

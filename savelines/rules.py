"""Rules by which processes save before they receive messages (DOC.md, point 9)."""

from savelines.errors import NoRule


class Rule:
    """The rule that never wants a save, and the base of those that do."""

    NAME = "none"

    def __init__(self, processes):
        self.processes = processes
        self.wanted = 0

    def save(self, process):
        """Take note that the process saves by itself."""

    def send(self, process):
        """Return the note that goes with the message that the process sends."""
        return None

    def receive(self, process, note):
        """Return whether the process must save before it receives a message with the note."""
        return False

    @property
    def forced(self):
        """How often receive has returned True."""
        return self.wanted


class SaveAfterSend(Rule):
    """The rule that wants a save if the process has sent a message since its last one."""

    NAME = "sent"

    def __init__(self, processes):
        super().__init__(processes)
        # Whether each process has done since its last save what calls for another one.
        self.busy = [False] * processes

    def save(self, process):
        """Take note that the process saves by itself."""
        self.busy[process] = False

    def send(self, process):
        """Return None, the note that goes with the message that the process sends."""
        self.busy[process] = True
        return None

    def receive(self, process, note):
        """Return whether the process must save before it receives a message."""
        must_save = self.busy[process]
        if must_save:
            self.wanted += 1
            self.busy[process] = False
        return must_save

    @property
    def forced(self):
        """How often receive has returned True."""
        return self.wanted


class SaveAlways(SaveAfterSend):
    """The rule that wants a save if the process has sent or received since its last one."""

    NAME = "always"

    def save(self, process):
        """Take note that the process saves by itself."""
        super().save(process)

    def send(self, process):
        """Return None, the note that goes with the message that the process sends."""
        return super().send(process)

    def receive(self, process, note):
        """Return whether the process must save before it receives a message."""
        must_save = super().receive(process, note)
        # The receipt comes behind the save, so it calls for the next one.
        self.busy[process] = True
        return must_save

    @property
    def forced(self):
        """How often receive has returned True."""
        return self.wanted


class Rounds(Rule):
    """The rule that keeps a number for each process and wants a save before a greater note."""

    NAME = "rounds"

    def __init__(self, processes):
        super().__init__(processes)
        self.numbers = [0] * processes

    def save(self, process):
        """Take note that the process saves by itself."""
        self.numbers[process] += 1

    def send(self, process):
        """Return the number of the process, the note that goes with its message."""
        return self.numbers[process]

    def receive(self, process, note):
        """Return whether the process must save before it receives a message with the note."""
        must_save = note > self.numbers[process]
        if must_save:
            self.wanted += 1
            self.numbers[process] = note
        return must_save

    @property
    def forced(self):
        """How often receive has returned True."""
        return self.wanted


def rule_named(name, processes):
    """Return a new rule with this name, any value, for so many processes."""
    if name == Rule.NAME:
        return Rule(processes)
    if name == SaveAfterSend.NAME:
        return SaveAfterSend(processes)
    if name == SaveAlways.NAME:
        return SaveAlways(processes)
    if name == Rounds.NAME:
        return Rounds(processes)
    raise NoRule(name)


def run_plan(rule, plan):
    """Tell the new rule all steps of the plan, and return the history that they make."""
    rows = [[] for row in range(rule.processes)]
    notes = []
    for step in plan:
        word, process = step[:2]
        if word == "save":
            rule.save(process)
            rows[process].append(0)
        elif word == "send":
            notes.append(rule.send(process))
            rows[process].append(len(notes))
        else:
            message = step[2]
            if rule.receive(process, notes[message - 1]):
                rows[process].append(0)
            rows[process].append(-message)
    return tuple([tuple(row) for row in rows])

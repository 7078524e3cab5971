"""The errors of the package; each keeps the values that it is made of, as they are."""


class LineError(ValueError):
    """The base of all errors here but NoProcess and NoMessage."""


class BadEvent(LineError):
    """A history with this event would be none."""

    def __init__(self, event):
        self.event = event


class TwoStates(LineError):
    """Two different states of this process are given."""

    def __init__(self, process):
        self.process = process


class NotTogether(LineError):
    """A zigzag leads from the one state to the other one."""

    def __init__(self, one, other):
        self.one = one
        self.other = other


class NoRule(LineError):
    """The value is not the name of a rule."""

    def __init__(self, value):
        self.value = value


class TooManySteps(LineError):
    """As many steps as the limit allows stand."""

    def __init__(self, limit):
        self.limit = limit


class Full(LineError):
    """The history has no room for another message or event."""


class NothingToUndo(LineError):
    """No step stands."""


class BadStep(LineError):
    """The argument with this index is no step."""

    def __init__(self, index):
        self.index = index


class Refused(LineError):
    """The step with this index cannot be done."""

    def __init__(self, index):
        self.index = index


class BadProcesses(LineError):
    """The value is no ascending tuple of processes."""

    def __init__(self, value):
        self.value = value


class BadText(LineError):
    """The word with this index is wrong; None if the value is not a text."""

    def __init__(self, index):
        self.index = index


class BadHistory(LineError):
    """All words of a text are right, but it has this history error."""

    def __init__(self, error):
        self.error = error


class NoProcess(LookupError):
    """The value is not the number of a process."""

    def __init__(self, value):
        self.value = value


class NoMessage(LookupError):
    """The value is not the number of a message that can be received."""

    def __init__(self, value):
        self.value = value

"""The limits of a history (DOC.md, point 4)."""

MAX_PROCESSES = 6
MAX_MESSAGES = 24
MAX_EVENTS = 60

"""What counts as a number (DOC.md, point 3)."""


def is_number(value):
    """Return whether value, any value, is a number."""
    # A bool is an int to Python, but True must not pass as 1, nor False as 0.
    return isinstance(value, int) and not isinstance(value, bool)


def is_number_within(value, low, high):
    """Return whether value, any value, is a number from low to high."""
    return is_number(value) and low <= value <= high

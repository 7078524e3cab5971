"""What counts as a number (DOC.md, point 3)."""


def is_number_within(value, low, high):
    """Return whether value, any value, is a number from low to high."""
    # A bool is an int to Python, but True must not pass as 1, nor False as 0.
    return isinstance(value, int) and not isinstance(value, bool) and low <= value <= high

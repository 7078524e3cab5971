"""The words of texts, and the numbers in them (DOC.md, points 10 and 11)."""

MAX_DIGITS = 6


def words_of(text):
    """Return the words of the text: what stands between single spaces, perhaps empty words."""
    return text.split(" ")


def number_of(word):
    """Return the number that a word of digits stands for; None if it is no such word."""
    if not word.isascii() or not word.isdigit() or len(word) > MAX_DIGITS:
        return None
    if word[0] == "0" and word != "0":
        return None
    return int(word)


def numbers_of(word):
    """Return the numbers of a word with a point between two; None if one of them is none."""
    numbers = [number_of(part) for part in word.split(".")]
    if None in numbers:
        return None
    return tuple(numbers)

"""The lines and the numbers of texts (point 13)."""

MOST_DIGITS = 9


def text_lines(text):
    """Return the lines of the text; the empty text has none."""
    if text == "":
        return []
    return text.split("\n")


def is_number(word):
    """Tell whether the word is a number as a text may have it."""
    if not (word.isascii() and word.isdigit()) or len(word) > MOST_DIGITS:
        return False
    return word == "0" or not word.startswith("0")

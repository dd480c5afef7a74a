"""Rows as texts: written, and read again."""

from wholecut.errors import BadText
from wholecut.problems import GREATEST_BOUND, GREATEST_NUMBER, MOST_UNKNOWNS, is_word


def shown(row):
    """The text of the row."""
    numbers, word, bound = row
    return " ".join([str(number) for number in numbers] + [word, str(bound)])


def read(text):
    """The row that the text writes."""
    if not isinstance(text, str):
        raise BadText("a row is read from a text")
    parts = text.split(" ")
    if not 3 <= len(parts) <= MOST_UNKNOWNS + 2 or not is_word(parts[-2]):
        raise BadText("a row is one to three numbers, most or least, and a bound, with one blank between")
    numbers = [number_read(part, GREATEST_NUMBER) for part in parts[:-2]]
    return tuple(numbers), parts[-2], number_read(parts[-1], GREATEST_BOUND)


def number_read(part, greatest):
    """The number of the text, which is to be from the greatest times -1 to the greatest."""
    figures = part[1:] if part.startswith("-") else part
    # Only as many figures as the greatest has are handed to int, which fails with some thousands of them.
    if len(figures) > len(str(greatest)) or not are_figures(figures) or part == "-0":
        raise BadText("a number is written by figures, without needless noughts or signs, and within its bounds")
    number = int(figures) if figures == part else -int(figures)
    if abs(number) > greatest:
        raise BadText("a number is out of its bounds")
    return number


def are_figures(text):
    # Not isdigit, which takes the figures of other scripts, too.
    if text == "" or not all([sign in "0123456789" for sign in text]):
        return False
    return text == "0" or text[0] != "0"

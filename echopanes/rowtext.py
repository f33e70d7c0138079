"""Texts of whole numbers, FRACTIONs and rows, and what is told by them."""

from echopanes.errors import BadText
from echopanes.exact import is_fraction
from echopanes.rows import is_row

FIGURES = "0123456789"
PART = 1000000000000000000


def number_text(number):
    """The whole number in plain figures, `-` ahead below 0."""
    # Python refuses to write very long numbers at once, so they are written part by part.
    parts = []
    left = abs(number)
    while left >= PART:
        left, part = divmod(left, PART)
        parts.append(str(part).zfill(18))
    parts.append(str(left))
    return ("-" if number < 0 else "") + "".join(parts[::-1])


def fraction_text(number):
    """The FRACTION's top, `/`, its bottom; the top alone where that is 1."""
    top, bottom = number
    return number_text(top) if bottom == 1 else number_text(top) + "/" + number_text(bottom)


def row_text(row):
    panes, wall = row
    words = ["row"] + [fraction_text(pane) for pane in panes]
    if wall != 0:
        words += ["wall", number_text(wall)]
    return " ".join(words)


def number_in(word):
    """The whole number told by figures, maybe with noughts or a `-` ahead; None where the word is otherwise."""
    figures = word.removeprefix("-")
    if figures == "" or not all([sign in FIGURES for sign in figures]):
        return None
    number = 0
    for sign in figures:
        number = number * 10 + int(sign)
    return -number if word.startswith("-") else number


def fraction_in(word):
    """The FRACTION whose text this is; None where it is none's."""
    top, slash, bottom = word.partition("/")
    told = (number_in(top), number_in(bottom) if slash == "/" else 1)
    # Noughts ahead, `-0` and a bottom of 1 are told as numbers, but never written so.
    if is_fraction(told) and fraction_text(told) == word:
        return told
    return None


def wall_in(words):
    """The wall that the last two words tell; 0 where they tell none."""
    if words[-2:] == ["wall", "1"]:
        return 1
    return -1 if words[-2:] == ["wall", "-1"] else 0


def row_in_text(text):
    """The ROW whose row_text this is."""
    words = text.split(" ")
    wall = wall_in(words)
    panes = words[1:] if wall == 0 else words[1:-2]
    row = (tuple([fraction_in(word) for word in panes]), wall)
    if not is_row(row) or row_text(row) != text:
        raise BadText(text)
    return row

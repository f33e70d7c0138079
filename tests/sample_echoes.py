"""Lists of numbers that are a row's, or none's, which several tests go through."""

from itertools import product

from plain_waves import never_more_is_heard, plain_echo
from sample_rows import ROWS, as_fraction, as_pair

NOUGHT = (0, 1)

# Each with how many of its first numbers are a row's.
BEYOND = [
    ([(2, 1)], 0),
    ([(-2, 1)], 0),
    ([(10 ** 50 + 1, 10 ** 50)], 0),
    ([(10 ** 50, 1), (1, 1)], 0),
    ([(61, 60), NOUGHT, NOUGHT], 0),
    ([NOUGHT, (2, 1)], 1),
    ([NOUGHT, NOUGHT, (-7, 6), (1, 1)], 2),
    ([(1, 2), (1, 1)], 1),
    ([(1, 2), (4, 5), NOUGHT], 1),
    ([(1, 1), (1, 1)], 1),
    ([(-1, 1), (1, 10 ** 60)], 1),
    ([(1, 1), NOUGHT, NOUGHT, (-1, 2), NOUGHT], 3),
    ([(-1, 1), NOUGHT, (100, 1), NOUGHT], 2),
    ([(1, 2), (3, 4), NOUGHT], 2),
    ([(1, 2), (3, 4), (-3, 8), NOUGHT], 3),
    ([(1, 2), (-3, 4), (-3, 8), (-3, 16), (-3, 32), (3, 64)], 5),
    ([NOUGHT, NOUGHT, (1, 1), NOUGHT, (1, 3)], 4),
]

# All short lists of some small numbers: many of them at an end of the stretch or just beyond it.
SMALL = [NOUGHT, (1, 2), (-1, 2), (3, 4), (-3, 8), (1, 1), (-1, 1), (5, 4)]
SHORT = [list(numbers) for many in range(5) for numbers in product(SMALL, repeat=many)]

ROW_LISTS = [plain_echo(row, many) for row in ROWS if len(row[0]) <= 13 for many in (0, 1, 2, 5, 12, 15, 24)]


def plain_beginning(echoes):
    """The greatest number of first ones of which, whatever is cried, no more is heard."""
    many = 0
    while many < len(echoes) and never_more_is_heard(echoes[:many + 1]):
        many += 1
    return many


def stretched(middle, half, top, bottom):
    """The number so far from the middle, by halves."""
    return as_pair(as_fraction(middle) + as_fraction(half) * as_fraction((top, bottom)))

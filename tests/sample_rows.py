"""Rows and weights that several tests go through, and Python's own fractions for the FRACTIONs."""

from fractions import Fraction

NEAR_ONE = (10 ** 40 - 1, 10 ** 40)
NEAR_MINUS_ONE = (-59, 60)

PANES = [
    (),
    ((0, 1),),
    ((1, 2),),
    ((-1, 3),),
    ((0, 1), (0, 1)),
    ((1, 2), (0, 1)),
    ((0, 1), (1, 2)),
    ((1, 2), (0, 1), (0, 1)),
    ((1, 2), (-1, 2)),
    ((1, 2), (0, 1), (-3, 5), (0, 1), (0, 1)),
    ((59, 60), (-59, 60)),
    (NEAR_ONE, NEAR_MINUS_ONE),
    tuple((1, k) for k in range(2, 14)),
    tuple((-k, k + 1) for k in range(1, 14)),
    ((0, 1),) * 13,
    ((1, 2), (-2, 3), (0, 1)) * 11,
]

FREE_ROWS = [(panes, 0) for panes in PANES]
WALLED_ROWS = [(panes, wall) for panes in PANES for wall in (1, -1)]
ROWS = FREE_ROWS + WALLED_ROWS

WEIGHTS = [(1, 1), (1, 12), (12, 1), (5, 7), (12, 11), (10 ** 30, 7)]


def as_fraction(pair):
    return Fraction(pair[0], pair[1])


def as_pair(fraction):
    return (fraction.numerator, fraction.denominator)


def plainly_fraction(thing):
    """Whether a thing is a FRACTION, found by Python's own fractions."""
    if type(thing) is not tuple or [type(part) for part in thing] != [int, int]:
        return False
    return thing[1] > 0 and as_pair(as_fraction(thing)) == thing


def kinds(thing):
    """The thing with the kind of each part beside it, so that True isn't taken for 1."""
    if isinstance(thing, (list, tuple)):
        return (type(thing), [kinds(part) for part in thing])
    if isinstance(thing, dict):
        return (type(thing), {key: kinds(thing[key]) for key in thing})
    return (type(thing), thing)

"""ROWs: pairs (panes, wall), the panes from the left to the right."""

from echopanes.errors import Walled
from echopanes.exact import NOUGHT, is_fraction, is_number, minus, without_last_noughts

WALLS = (0, 1, -1)


def is_pane(thing):
    return is_fraction(thing) and abs(thing[0]) < thing[1]


def is_row(thing):
    """Whether the thing is a ROW, however many panes it has."""
    if not isinstance(thing, tuple) or len(thing) != 2:
        return False
    panes, wall = thing
    # True is among WALLS by ==, so a wall must be a number first.
    if not is_number(wall) or wall not in WALLS:
        return False
    return isinstance(panes, tuple) and all([is_pane(pane) for pane in panes])


def trimmed(row):
    """The row without its last panes that are 0; one with a wall stays as it is."""
    panes, wall = row
    if wall != 0:
        return row
    return (without_last_noughts(panes), wall)


def mirrored(row):
    """The row as it is met from the right."""
    panes, wall = row
    if wall != 0:
        raise Walled()
    return (tuple([minus(NOUGHT, pane) for pane in reversed(panes)]), wall)


def joined(one, other):
    """The row of the one's panes and, behind them, the other's, and its wall."""
    if one[1] != 0:
        raise Walled()
    return (one[0] + other[0], other[1])

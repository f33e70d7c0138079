"""Rows told apart, and rows told by what is heard at both ends."""

from echopanes.errors import Clash, ClashWeights, Few, NoRow
from echopanes.exact import NOUGHT, over
from echopanes.finding import panes_ahead
from echopanes.rooms import rooms_of, row_of
from echopanes.rows import mirrored


def panes_and_wall(row, many):
    """The list of the row's panes, and its wall as one more, with noughts so many long."""
    panes, wall = row
    told = list(panes) if wall == 0 else list(panes) + [(wall, 1)]
    return told + [NOUGHT] * (many - len(told))


def told_apart(one, other):
    """The place of the first number by which the echoes of two ROWs are not alike; None where they are."""
    many = max(len(one[0]), len(other[0])) + 1
    for place, (here, there) in enumerate(zip(panes_and_wall(one, many), panes_and_wall(other, many))):
        # Panes alike tell numbers alike, and the first ones that are not tell their numbers apart at once.
        if here != there:
            return place
    return None


def panes_told(echoes):
    """The tuple of as many panes as numbers."""
    panes, heard, cries = panes_ahead(echoes)
    # What is left is heard of a wall, or of nothing that there can be.
    if len(heard) > 0:
        raise NoRow()
    return tuple(panes)


def told_by_weights(first, last, weights):
    """The pane between the first and the last ones, by the weights of the outer rooms."""
    ahead = rooms_of((first, 0), first=weights[0])[-1]
    behind = over(weights[1], rooms_of((last, 0))[-1])
    return row_of([ahead, behind])[0]


def from_both(left, right, *, many, weights=None):
    """The ROW of so many panes of which left begins the echo, and right that of the mirrored one."""
    first = panes_told(left)
    last = mirrored((panes_told(right), 0))[0]
    untold = many - len(last)
    for place in range(untold, len(first)):
        if first[place] != last[place - untold]:
            raise Clash(place + 1)
    lack = untold - len(first)
    if lack == 1 and weights is not None:
        return (first + told_by_weights(first, last, weights) + last, 0)
    if lack > 0:
        raise Few(lack)
    row = (first[:untold] + last, 0)
    if weights is not None and rooms_of(row, first=weights[0])[-1] != weights[1]:
        raise ClashWeights()
    return row

"""The panes of a row found back from its echo."""

from echopanes.echoes import echo
from echopanes.errors import NoRow
from echopanes.exact import NOUGHT, ONE, fraction, minus, times
from echopanes.rows import is_pane, trimmed
from echopanes.series import ahead_of_panes, behind_pane, heard_of_one, lowered


def panes_ahead(echoes):
    """The panes told by the numbers till one tells none, and what is heard and cried behind the last of them.

    These two are lists of whole numbers, scaled alike.
    """
    panes = []
    heard, cries = heard_of_one(echoes)
    while len(heard) > 0:
        pane = fraction(heard[0], cries[0])
        if not is_pane(pane):
            break
        panes.append(pane)
        heard, cries = behind_pane(pane, heard, cries)
    return panes, heard, cries


def wall_behind(heard, cries):
    """The wall that the first number behind all panes tells; 0 where it tells none."""
    if len(heard) == 0 or abs(heard[0]) != abs(cries[0]):
        return 0
    return heard[0] // cries[0]


def told_by_wall(heard, cries):
    """How many of the first numbers behind all panes are those of a wall."""
    wall = wall_behind(heard, cries)
    told = 0
    while wall != 0 and told < len(heard) and heard[told] == wall * cries[told]:
        told += 1
    return told


def paper_of_none(panes, heard, cries):
    """The cries of which just one, and 0 after it, comes to what is behind the panes.

    More is heard of that one there than it is, and past each pane the squares' difference keeps its sign.
    """
    wall, told = wall_behind(heard, cries), told_by_wall(heard, cries)
    single = [cries[0]] + [0] * told
    # A wall throws the one back as it is, so all that is wrong is heard alone, at the last place.
    back = [wall * cry for cry in single]
    back[told] += heard[told] - wall * cries[told]
    heard, single = ahead_of_panes(panes, back, single)
    return [(cry, 1) for cry in lowered(single, [])[0]]


def found_back(echoes):
    """The pair ("row", ROW) of the row that has these numbers, or ("none", cries) of a paper of none."""
    panes, heard, cries = panes_ahead(echoes)
    if told_by_wall(heard, cries) < len(heard):
        return ("none", paper_of_none(panes, heard, cries))
    return ("row", trimmed((tuple(panes), wall_behind(heard, cries))))


def beginning(echoes):
    """The greatest number of first ones that are a row's."""
    panes, heard, cries = panes_ahead(echoes)
    return len(panes) + told_by_wall(heard, cries)


def half_of(row):
    """Half the width of the stretch of numbers that may come behind those that tell this row."""
    panes, wall = row
    half = ONE if wall == 0 else NOUGHT
    for pane in panes:
        half = times(half, minus(ONE, times(pane, pane)))
    return half


def next_of(echoes):
    """The pair (middle, half) of the stretch of just the numbers that may come behind these."""
    word, told = found_back(echoes)
    if word == "none":
        raise NoRow()
    # With no more panes behind, the next one is in the middle.
    return (echo(told, len(echoes) + 1)[-1], half_of(told))

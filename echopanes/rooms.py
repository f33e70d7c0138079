"""Rooms between the panes of a row, told by their weights."""

from echopanes.exact import ONE, minus, over, plus, times


def rooms_of(row, *, first=(1, 1)):
    """The list of weights of rooms 0 to N, room 0 being of the weight `first`."""
    weights = [first]
    for pane in row[0]:
        share = over(minus(ONE, pane), plus(ONE, pane))
        weights.append(times(weights[-1], share))
    return weights


def row_of(rooms, *, wall=0):
    """The ROW between rooms of these weights, one room at least."""
    panes = [over(minus(one, other), plus(one, other)) for one, other in zip(rooms, rooms[1:])]
    return (tuple(panes), wall)

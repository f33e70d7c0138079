"""What is told late of a hall: a cry more, each cry's own part, and when a change is heard."""

from echopanes.errors import NoRoom, Walled
from echopanes.exact import NOUGHT
from echopanes.scenes import scenes_of, set_scene


def told_late(hall, beat, side, size):
    """The pair of lists (left, right) of what would be heard had that, too, been cried to come at that beat."""
    waves = hall.still_waves()
    if side == "right" and waves.wall != 0:
        raise Walled()
    for number, (turned, weights, cries) in enumerate(scenes_of(hall), start=1):
        set_scene(waves, turned, weights)
        if number == beat:
            waves.cry(side, size)
        for own_side, own_size in cries:
            waves.cry(own_side, own_size)
        waves.beat()
    return (waves.heard("left"), waves.heard("right"))


def heard_alone(hall, scenes, side, size):
    """The pair of lists of what is heard from these scenes on of one cry alone, that comes at the first of them."""
    waves = hall.still_waves()
    waves.cry(side, size)
    for turned, weights, cries in scenes:
        set_scene(waves, turned, weights)
        waves.beat()
    return (waves.heard("left"), waves.heard("right"))


def parts_of(hall):
    """The list of triples (beat, side, heard) of each cry that has come, in the order in which they were cried."""
    parts = []
    scenes = scenes_of(hall)
    for ahead, (turned, weights, cries) in enumerate(scenes):
        for side, size in cries:
            left, right = heard_alone(hall, scenes[ahead:], side, size)
            silence = [NOUGHT] * ahead
            parts.append((ahead + 1, side, (silence + left, silence + right)))
    return parts


def first_heard(hall, room, side):
    """At which beat from now on a change of the room is heard on that side at the earliest; None where never."""
    if not 0 <= room < len(hall.rooms()):
        raise NoRoom(room)
    panes, wall = hall.row()
    if len(panes) == 0 or side == "right" and wall != 0:
        return None
    # The panes on both sides of the room are changed, and the nearer one is a beat from the end for each pane.
    return max(1, room if side == "left" else len(panes) - room)

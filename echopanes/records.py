"""Records of halls: what came to each pane, and left it, beat by beat."""

from echopanes.exact import NOUGHT, is_fraction
from echopanes.rooms import row_of
from echopanes.scenes import scenes_of, set_scene
from echopanes.waves import leaves_of


def record_of(hall):
    """The list, beat by beat, of the triples (rooms, comes, leaves)."""
    record = []
    waves = hall.still_waves()
    for turned, weights, cries in scenes_of(hall):
        set_scene(waves, turned, weights)
        for side, size in cries:
            waves.cry(side, size)
        comes, leaves = waves.comes(), waves.all_met()
        waves.send(leaves)
        record.append((weights, comes, leaves))
    return record


def is_weight(thing):
    return is_fraction(thing) and thing[0] > 0


def is_list_of_pairs(thing, many):
    """Whether the thing is a list of so many pairs of FRACTIONs."""
    if not isinstance(thing, list) or len(thing) != many:
        return False
    pairs = all([isinstance(part, tuple) and len(part) == 2 for part in thing])
    return pairs and all([is_fraction(number) for part in thing for number in part])


def is_scene(wall, thing):
    """Whether the thing is a triple (rooms, comes, leaves) in which what leaves is what comes of what came."""
    if not isinstance(thing, tuple) or len(thing) != 3:
        return False
    rooms, comes, leaves = thing
    if not isinstance(rooms, list) or not all([is_weight(weight) for weight in rooms]):
        return False
    many = len(rooms) - 1 + abs(wall)
    if many < 1 or not is_list_of_pairs(comes, many) or not is_list_of_pairs(leaves, many):
        return False
    if wall != 0 and comes[-1][1] != NOUGHT:
        return False
    return leaves == leaves_of(row_of(rooms, wall=wall), comes)


def goes_on(leaves, comes):
    """Whether in each room what left comes to the neighbours at the next beat."""
    rightward = [right for left, right in leaves[:-1]] == [left for left, right in comes[1:]]
    return rightward and [left for left, right in leaves[1:]] == [right for left, right in comes[:-1]]


def turns_about(leaves, comes):
    """Whether in each room what left comes back at the next beat."""
    rightward = [right for left, right in leaves[:-1]] == [right for left, right in comes[:-1]]
    return rightward and [left for left, right in leaves[1:]] == [left for left, right in comes[1:]]


def shows_record(wall, thing):
    """Whether the thing is a record, for any cries, of a hall with that wall."""
    if not isinstance(thing, list) or not all([is_scene(wall, part) for part in thing]):
        return False
    # Scenes unlike in their rooms' number are told by lists unlike in length.
    steps = [(one[2], other[1]) for one, other in zip(thing, thing[1:])]
    return all([goes_on(leaves, comes) or turns_about(leaves, comes) for leaves, comes in steps])

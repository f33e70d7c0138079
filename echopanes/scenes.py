"""A hall's history beat by beat, so that waves can go through it once more."""


def scenes_of(hall):
    """The list, beat by beat, of triples (turned, weights, cries).

    Turned is whether all was turned about since the beat ahead, weights are the rooms' then, cries the list of pairs
    (side, size) of what came, in the order in which it was cried.
    """
    scenes = []
    weights = hall.as_of(0).rooms()
    turned, cries = False, []
    for deed in hall.steps():
        if deed[0] == "cry":
            cries.append((deed[1], deed[2]))
        elif deed[0] == "change":
            weights[deed[1]] = deed[2]
        elif deed[0] == "turn":
            turned = not turned
        else:
            scenes.append((turned, list(weights), cries))
            scenes += [(False, list(weights), []) for step in range(deed[1] - 1)]
            turned, cries = False, []
    return scenes


def set_scene(waves, turned, weights):
    """Makes the waves ready for a beat, but for its cries."""
    if turned:
        waves.turn()
    waves.take_weights(weights)

"""Halls and histories of deeds that several tests go through."""

import random

from echopanes.errors import NoRoom, Walled
from echopanes.hall import Hall

SIDES = ("left", "right")

# Rooms and a wall each.
HALLS = [
    ([(1, 1)], 1),
    ([(5, 7)], -1),
    ([(1, 1), (1, 3)], 0),
    ([(2, 1), (2, 1)], 0),
    ([(12, 1), (1, 12)], 1),
    ([(1, 1), (2, 1), (3, 1)], 0),
    ([(3, 1), (1, 1), (1, 1)], -1),
    ([(1, 2), (5, 1), (7, 12), (1, 1)], 0),
    ([(1, 2), (5, 1), (7, 12), (1, 1)], 1),
    ([(2, 3), (2, 3), (5, 11), (12, 7), (1, 1), (9, 2)], 0),
]
LONG_HALLS = [
    ([(k, 13 - k) if k % 2 else (13 - k, 1) for k in range(1, 13)] + [(7, 11)], 0),
    ([(k, 13 - k) if k % 2 else (13 - k, 1) for k in range(1, 13)] + [(7, 11)], -1),
]
FREE_HALLS = [(rooms, wall) for rooms, wall in HALLS if wall == 0]
WALLED_HALLS = [(rooms, wall) for rooms, wall in HALLS if wall != 0]

WEIGHTS = [(1, 1), (2, 1), (1, 12), (12, 1), (7, 5), (3, 4), (11, 12)]
SIZES = [(1, 1), (-2, 3), (60, 59), (0, 1), (5, 1), (-1, 60)]


def drawn_deed(chance, rooms, wall, words):
    """A deed that may be refused, too."""
    word = chance.choice(words)
    if word == "cry":
        return ("cry", chance.choice(SIDES), chance.choice(SIZES))
    if word == "change":
        return ("change", chance.choice(list(range(-1, len(rooms) + 1))), chance.choice(WEIGHTS))
    if word == "beat":
        return chance.choice([("beat",), ("beat", 1), ("beat", 2), ("beat", 3)])
    if word == "do":
        inner = ["cry", "change", "change", "beat", "turn", "cry"]
        return ("do", [drawn_deed(chance, rooms, wall, inner) for _ in range(chance.randrange(5))])
    return (word,)


def drawn_history(rooms, wall, seed, many=25):
    chance = random.Random(seed)
    words = ["cry", "cry", "change", "change", "beat", "beat", "turn", "do", "undo"]
    return [drawn_deed(chance, rooms, wall, words) for _ in range(many)]


def do_deed(hall, deed):
    """Does a deed on a Hall: the pair of what it tells and of what refuses it."""
    word, *parts = deed
    try:
        return getattr(hall, word)(*parts), None
    except Walled:
        return None, ("Walled",)
    except NoRoom as why:
        return None, ("NoRoom", why.room)


def hall_after(rooms, wall, deeds):
    hall = Hall(rooms, wall=wall)
    for deed in deeds:
        do_deed(hall, deed)
    return hall


def asked(hall):
    """All that a Hall is asked, but for what compares it."""
    return {
        "rooms": hall.rooms(), "row": hall.row(), "on_way": hall.on_way(), "left": hall.heard("left"),
        "right": hall.heard("right"), "beats": hall.beats(), "ledger": hall.ledger(), "deeds": hall.deeds(),
        "log": hall.log(),
    }

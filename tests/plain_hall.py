"""Halls reckoned straight from the document's words: each ask goes through all deeds that stand once more."""

from fractions import Fraction

from plain_waves import PlainWaves
from sample_rows import as_fraction, as_pair


def plain_row(rooms, wall):
    weights = [as_fraction(weight) for weight in rooms]
    panes = [(one - other) / (one + other) for one, other in zip(weights, weights[1:])]
    return (tuple(as_pair(pane) for pane in panes), wall)


class PlainCourse(PlainWaves):
    """Waves whose rooms are changed, with the four of the ledger and the records."""

    def __init__(self, rooms, wall):
        super().__init__(plain_row(rooms, wall), rooms[0])
        self.changes = {}
        self.work = self.heard_squares = Fraction(0)
        self.records = []

    def refusal(self, deed):
        """The class that refuses the deed, by its name, and its fields; None where it is done."""
        if deed[0] == "cry" and deed[1] == "right" and self.wall:
            return ("Walled",)
        if deed[0] == "change" and not 0 <= deed[1] < len(self.weights):
            return ("NoRoom", deed[1])
        return None

    def change(self, room, weight):
        self.changes[room] = as_fraction(weight)

    def beat(self, many=1):
        return [self.one_beat() for _ in range(many)]

    def one_beat(self):
        for room, weight in self.changes.items():
            if 1 <= room <= self.last:
                right, left = self.rooms()[room - 1]
                self.work += (weight - self.weights[room]) * (right ** 2 + left ** 2)
            self.weights[room] = weight
        self.changes = {}
        self.panes = [(one - other) / (one + other) for one, other in zip(self.weights, self.weights[1:])]
        comes = dict(self.comes)
        comes[0, "left"] += self.waiting["left"]
        comes[self.last, "right"] += self.waiting["right"]
        told = super().beat(1)[0]
        left, right = (as_fraction(number) for number in told)
        self.heard_squares += self.weights[0] * left ** 2 + self.weights[-1] * right ** 2
        met = [(comes[at, "left"], comes[at, "right"]) for at in range(self.last + 1)]
        self.records.append((
            [as_pair(weight) for weight in self.weights],
            [(as_pair(a), as_pair(b)) for a, b in met],
            [tuple(as_pair(number) for number in self.leave(at, a, b)) for at, (a, b) in enumerate(met)],
        ))
        return told

    def squares_on_way(self):
        return sum(
            (self.weights[at] * (right ** 2 + left ** 2) for at, (right, left) in enumerate(self.rooms(), start=1)),
            Fraction(0),
        )

    def ledger(self):
        return tuple(as_pair(part) for part in (self.cried, self.work, self.heard_squares, self.squares_on_way()))


class PlainHall:
    def __init__(self, rooms, wall=0):
        self.first, self.wall = list(rooms), wall
        self.stands, self.told_log = [], []

    def course(self, extra=()):
        """The course of all deeds that stand, and of some more behind them."""
        course = PlainCourse(self.first, self.wall)
        for deeds in self.stands + [list(extra)]:
            for word, *parts in deeds:
                getattr(course, word)(*parts)
        return course

    def deed(self, deed):
        """Does a deed, undo and do too: the pair of what it tells and of what refuses it."""
        word, *parts = deed
        self.told_log.append(("in", word))
        told, refused = None, None
        if word == "undo":
            told = bool(self.stands)
            self.stands = self.stands[:-1]
        elif word == "do":
            told, refused = self.together(parts[0])
        else:
            refused = self.course().refusal(deed)
            if refused is None:
                told = getattr(self.course(), word)(*parts)
                self.stands.append([deed])
        self.told_log.append(("out", word))
        return told, refused

    def together(self, deeds):
        told, done = [], []
        for word, *parts in deeds:
            course = self.course(done)
            self.told_log += [("in", word), ("out", word)]
            refused = course.refusal((word, *parts))
            if refused is not None:
                return None, refused
            told.append(getattr(course, word)(*parts))
            done.append((word, *parts))
        self.stands.append(done)
        return told, None

    def asked(self):
        course = self.course()
        return {
            "rooms": [as_pair(weight) for weight in course.weights],
            "row": (tuple(as_pair(pane) for pane in course.panes), self.wall),
            "on_way": course.on_way(), "left": course.heard("left"), "right": course.heard("right"),
            "beats": course.beats(), "ledger": course.ledger(), "deeds": len(self.stands), "log": list(self.told_log),
        }


def single_steps(stands):
    """The deeds that stand one by one, each beat by itself."""
    for deeds in stands:
        for word, *parts in deeds:
            if word == "beat":
                yield from [("beat",)] * (parts[0] if parts else 1)
            else:
                yield (word, *parts)


def plain_run(plain, steps):
    """The course of a hall's first rooms through other steps."""
    course = PlainCourse(plain.first, plain.wall)
    for word, *parts in steps:
        getattr(course, word)(*parts)
    return course


def plain_told_late(plain, beat, side, size):
    steps, beats = [], 0
    for step in single_steps(plain.stands):
        if step[0] == "beat":
            beats += 1
            if beats == beat:
                steps.append(("cry", side, size))
        steps.append(step)
    course = plain_run(plain, steps)
    return (course.heard("left"), course.heard("right"))


def plain_parts(plain):
    told, steps = [], list(single_steps(plain.stands))
    for at, step in enumerate(steps):
        if step[0] == "cry" and ("beat",) in steps[at:]:
            alone = [other for k, other in enumerate(steps) if k == at or other[0] != "cry"]
            course = plain_run(plain, alone)
            beat = sum(other[0] == "beat" for other in steps[:at]) + 1
            told.append((beat, step[1], (course.heard("left"), course.heard("right"))))
    return told

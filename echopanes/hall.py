"""Halls: rows whose rooms are changed amid the waves, with all that happened kept."""

from echopanes.course import Course
from echopanes.errors import NoDeed


def written_out(deed):
    """The deed, a tuple of its word and its arguments, with beat's argument where that is left out."""
    return ("beat", 1) if deed[0] == "beat" and len(deed) == 1 else tuple(deed)


def done_on(course, deed):
    """Does a deed that is written out: told what it tells."""
    word = deed[0]
    if word == "cry":
        return course.cry(deed[1], deed[2])
    if word == "change":
        return course.change(deed[1], deed[2])
    if word == "beat":
        return course.beat(deed[1])
    return course.turn()


class Hall:
    """A row by its rooms' weights, at first all still.

    Each deed goes on a new course, and none is changed once it is kept, so halls may share them.
    """

    def __init__(self, rooms, *, wall=0):
        self.courses = [Course(rooms, wall)]
        self.kept = []
        self.entries = []

    def cry(self, side, size):
        """Adds to what comes from that side at the next beat."""
        return self.do_alone(("cry", side, size))

    def change(self, room, weight):
        """The room is of that weight from the next beat on."""
        return self.do_alone(("change", room, weight))

    def beat(self, many=1):
        """So many beats: the list of pairs (left, right) heard."""
        return self.do_alone(("beat", many))

    def turn(self):
        """All that is on the way goes the other way about."""
        return self.do_alone(("turn",))

    def do(self, deeds):
        """Does the deeds as one: the list of what they tell."""
        self.entries.append(("in", "do"))
        try:
            return self.do_together([written_out(deed) for deed in deeds])
        finally:
            self.entries.append(("out", "do"))

    def undo(self):
        """Takes back the last deed that stands: whether there was one."""
        self.entries.append(("in", "undo"))
        stands = len(self.kept) > 0
        if stands:
            self.kept.pop()
            self.courses.pop()
        self.entries.append(("out", "undo"))
        return stands

    def do_alone(self, deed):
        return self.do_together([deed])[0]

    def do_together(self, steps):
        course = self.courses[-1].twin()
        told = [self.do_logged(course, deed) for deed in steps]
        self.courses.append(course)
        self.kept.append(steps)
        return told

    def do_logged(self, course, deed):
        word = deed[0]
        self.entries.append(("in", word))
        try:
            return done_on(course, deed)
        finally:
            self.entries.append(("out", word))

    def rooms(self):
        """The list of the rooms' weights as they are."""
        return list(self.courses[-1].waves.weights)

    def row(self):
        return self.courses[-1].waves.row()

    def on_way(self):
        """The list of pairs (to the right, to the left), room by room, from room 1 on."""
        return self.courses[-1].waves.on_way()

    def heard(self, side):
        """The list of all heard on that side, beat by beat."""
        return self.courses[-1].waves.heard(side)

    def beats(self):
        return self.courses[-1].waves.beats()

    def ledger(self):
        """The four FRACTIONs (cried, work, heard, on the way)."""
        return self.courses[-1].ledger()

    def deeds(self):
        """How many deeds can be taken back."""
        return len(self.kept)

    def as_of(self, many):
        """A Hall of its own, as behind the first so many deeds."""
        if not 0 <= many <= len(self.kept):
            raise NoDeed(many)
        waves = self.courses[0].waves
        other = Hall(waves.weights, wall=waves.wall)
        other.courses = self.courses[:many + 1]
        other.kept = self.kept[:many]
        return other

    def twin(self):
        """A Hall of its own, as this one is now."""
        return self.as_of(self.deeds())

    def log(self):
        """The list of ("in", word) and ("out", word) of all deeds begun and ended."""
        return list(self.entries)

    def steps(self):
        """The list of all single deeds that stand, written out."""
        return [deed for steps in self.kept for deed in steps]

    def still_waves(self):
        """Waves of their own in the rooms as they were at first."""
        return self.courses[0].waves.twin()

    def __eq__(self, other):
        return isinstance(other, Hall) and self.courses[-1].compared() == other.courses[-1].compared()

    def __len__(self):
        return len(self.courses[-1].waves)

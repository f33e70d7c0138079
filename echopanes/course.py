"""The course of a hall: its waves, the changes of its rooms that wait, and the squares that came and went."""

from echopanes.errors import NoRoom
from echopanes.exact import NOUGHT, minus, plus, squares_of, times
from echopanes.rooms import row_of
from echopanes.waves import Waves


class Course:
    """Does single deeds, and keeps none of them."""

    def __init__(self, rooms, wall):
        self.waves = Waves(row_of(rooms, wall=wall), first=rooms[0])
        self.waiting = {}
        self.cried = NOUGHT
        self.worked = NOUGHT
        self.let_out = NOUGHT

    def cry(self, side, size):
        self.waves.cry(side, size)

    def change(self, room, weight):
        """The room is of that weight from the next beat on."""
        if not 0 <= room < len(self.waves.weights):
            raise NoRoom(room)
        self.waiting[room] = weight

    def beat(self, many):
        """So many beats: the list of pairs (left, right) heard."""
        return [self.beat_once() for step in range(many)]

    def beat_once(self):
        if len(self.waiting) > 0:
            self.make_changes()
        self.cried = plus(self.cried, self.weighed(self.waves.left_cry, self.waves.right_cry))
        left, right = self.waves.beat_once()
        self.let_out = plus(self.let_out, self.weighed(left, right))
        return (left, right)

    def make_changes(self):
        before = self.waves.squares()
        self.waves.take_weights(self.weights_to_come())
        self.waiting = {}
        # What is on the way stays, so all that the squares are more is work.
        self.worked = plus(self.worked, minus(self.waves.squares(), before))

    def weights_to_come(self):
        return [self.waiting.get(room, weight) for room, weight in enumerate(self.waves.weights)]

    def weighed(self, left, right):
        """The squares of what comes or goes at both ends, by the weights of the outer rooms."""
        weights = self.waves.weights
        return plus(times(weights[0], squares_of([left])), times(weights[-1], squares_of([right])))

    def turn(self):
        self.waves.turn()

    def ledger(self):
        """The four FRACTIONs (cried, work, heard, on the way)."""
        return (self.cried, self.worked, self.let_out, self.waves.squares())

    def twin(self):
        """A course of its own, alike in all."""
        other = Course(self.waves.weights, self.waves.wall)
        other.waves = self.waves.twin()
        other.waiting = dict(self.waiting)
        other.cried = self.cried
        other.worked = self.worked
        other.let_out = self.let_out
        return other

    def compared(self):
        """All by which two halls are alike or not."""
        # Waves are compared by their row and its first room, which tell all rooms.
        return (self.waves.compared(), self.waiting)

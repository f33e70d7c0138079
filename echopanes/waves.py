"""Waves on the way between the panes of a row, beat by beat."""

from echopanes.errors import NoPane, Walled
from echopanes.exact import NOUGHT, minus, plus, squares_of, times
from echopanes.rooms import rooms_of, row_of


def met(pane, a, b):
    """The pair of what leaves the pane to the left, to the right, of a come from the left and b from the right."""
    thrown = times(pane, minus(a, b))
    return (plus(b, thrown), plus(a, thrown))


def leaves_of(row, comes):
    """Of each pane of the row, and of its wall, the pair of what leaves it of the pair that comes."""
    panes, wall = row
    leaves = [met(pane, a, b) for pane, (a, b) in zip(panes, comes)]
    if wall != 0:
        leaves.append((times((wall, 1), comes[-1][0]), NOUGHT))
    return leaves


class Waves:
    """A row and what is on the way in it, at first nothing."""

    def __init__(self, row, *, first=(1, 1)):
        if row == ((), 0):
            raise NoPane()
        self.panes, self.wall = row
        self.weights = rooms_of(row, first=first)
        # A wall has a room ahead of it that the panes alone do not have between them.
        inner = len(self.panes) - 1 + abs(self.wall)
        self.rightward = [NOUGHT] * inner
        self.leftward = [NOUGHT] * inner
        self.left_cry = NOUGHT
        self.right_cry = NOUGHT
        self.heard_left = []
        self.heard_right = []

    def cry(self, side, size):
        """Adds to what comes from that side at the next beat."""
        if side == "left":
            self.left_cry = plus(self.left_cry, size)
        elif self.wall != 0:
            raise Walled()
        else:
            self.right_cry = plus(self.right_cry, size)

    def beat(self, many=1):
        """So many beats: the list of pairs (left, right) heard."""
        return [self.beat_once() for step in range(many)]

    def beat_once(self):
        return self.send(self.all_met())

    def send(self, leaves):
        """All that leaves is on the way from now on: the pair (left, right) of what is heard of it."""
        self.rightward = [right for left, right in leaves[:-1]]
        self.leftward = [left for left, right in leaves[1:]]
        self.left_cry = NOUGHT
        self.right_cry = NOUGHT
        heard = (leaves[0][0], leaves[-1][1])
        self.heard_left.append(heard[0])
        self.heard_right.append(heard[1])
        return heard

    def comes(self):
        """Of each pane, and of the wall, the pair of what comes to it next from the left, from the right."""
        return list(zip([self.left_cry] + self.rightward, self.leftward + [self.right_cry]))

    def all_met(self):
        """Of each pane, and of the wall, the pair of what leaves it of all that comes."""
        return leaves_of(self.row(), self.comes())

    def turn(self):
        """All that is on the way goes the other way about; cries that wait stay."""
        self.rightward, self.leftward = self.leftward, self.rightward

    def take_weights(self, weights):
        """The rooms are of these weights from now on; what is on the way stays as it is."""
        self.weights = list(weights)
        self.panes = row_of(weights)[0]

    def row(self):
        return (self.panes, self.wall)

    def on_way(self):
        """The list of pairs (to the right, to the left), room by room, from room 1 on."""
        return list(zip(self.rightward, self.leftward))

    def squares(self):
        """The squares of all that is on the way, each times its room's weight."""
        total = NOUGHT
        for weight, pair in zip(self.weights[1:], self.on_way()):
            total = plus(total, times(weight, squares_of(pair)))
        return total

    def beats(self):
        return len(self.heard_left)

    def heard(self, side):
        """The list of all heard on that side, beat by beat."""
        return list(self.heard_left) if side == "left" else list(self.heard_right)

    def is_still(self):
        """Whether nothing is on the way and nothing waits."""
        numbers = self.rightward + self.leftward + [self.left_cry, self.right_cry]
        return all([number == NOUGHT for number in numbers])

    def twin(self):
        """Waves of their own, alike in all."""
        other = Waves(self.row(), first=self.weights[0])
        other.rightward = list(self.rightward)
        other.leftward = list(self.leftward)
        other.left_cry = self.left_cry
        other.right_cry = self.right_cry
        other.heard_left = list(self.heard_left)
        other.heard_right = list(self.heard_right)
        return other

    def compared(self):
        """All by which two Waves are alike or not."""
        cries = (self.left_cry, self.right_cry)
        return (self.row(), self.weights[0], self.on_way(), cries, self.heard_left, self.heard_right)

    def __eq__(self, other):
        return isinstance(other, Waves) and self.compared() == other.compared()

    def __len__(self):
        return len(self.heard_left)

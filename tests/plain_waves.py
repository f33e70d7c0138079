"""Waves and echoes reckoned straight from the document's words, by Python's own fractions."""

from fractions import Fraction

from sample_rows import as_fraction, as_pair


class PlainWaves:
    """What comes next to each pane, or to the wall, from the left and from the right."""

    def __init__(self, row, first=(1, 1)):
        panes, wall = row
        self.panes, self.wall = [as_fraction(pane) for pane in panes], wall
        self.last = len(panes) - 1 + (wall != 0)
        self.weights = [as_fraction(first)]
        for pane in self.panes:
            self.weights.append(self.weights[-1] * (1 - pane) / (1 + pane))
        self.comes = self.nothing()
        self.waiting = {"left": Fraction(0), "right": Fraction(0)}
        self.ends = {"left": [], "right": []}
        self.cried = Fraction(0)

    def nothing(self):
        return {(at, side): Fraction(0) for at in range(self.last + 1) for side in ("left", "right")}

    def cry(self, side, size):
        self.waiting[side] += as_fraction(size)

    def leave(self, at, a, b):
        if at == len(self.panes):
            return self.wall * a, Fraction(0)
        r = self.panes[at]
        return r * a + (1 - r) * b, (1 + r) * a - r * b

    def beat(self, many=1):
        told = []
        for _ in range(many):
            self.cried += self.weights[0] * self.waiting["left"] ** 2 + self.weights[-1] * self.waiting["right"] ** 2
            self.comes[0, "left"] += self.waiting["left"]
            self.comes[self.last, "right"] += self.waiting["right"]
            self.waiting = {"left": Fraction(0), "right": Fraction(0)}
            comes, self.comes = self.comes, self.nothing()
            for at in range(self.last + 1):
                left, right = self.leave(at, comes[at, "left"], comes[at, "right"])
                if at == 0:
                    self.ends["left"].append(left)
                else:
                    self.comes[at - 1, "right"] = left
                if at == self.last:
                    self.ends["right"].append(right)
                else:
                    self.comes[at + 1, "left"] = right
            told.append((as_pair(self.ends["left"][-1]), as_pair(self.ends["right"][-1])))
        return told

    def turn(self):
        for at in range(self.last):
            one, other = (at + 1, "left"), (at, "right")
            self.comes[one], self.comes[other] = self.comes[other], self.comes[one]

    def rooms(self):
        return [(self.comes[at + 1, "left"], self.comes[at, "right"]) for at in range(self.last)]

    def on_way(self):
        return [(as_pair(right), as_pair(left)) for right, left in self.rooms()]

    def squares(self):
        return as_pair(sum(
            (self.weights[at] * (right ** 2 + left ** 2) for at, (right, left) in enumerate(self.rooms(), start=1)),
            Fraction(0),
        ))

    def beats(self):
        return len(self.ends["left"])

    def heard(self, side):
        return [as_pair(number) for number in self.ends[side]]

    def is_still(self):
        return not any(self.comes.values()) and not any(self.waiting.values())


def plain_heard(row, cries, many):
    """What is heard on the left at the first beat, the third and so on, of cries at these beats."""
    if row == ((), 0):
        return [(0, 1)] * many
    waves = PlainWaves(row)
    for at in range(many):
        waves.cry("left", cries[at] if at < len(cries) else (0, 1))
        waves.beat(2)
    return waves.heard("left")[::2]


def plain_echo(row, many):
    return plain_heard(row, [(1, 1)], many)


def plain_squares(numbers):
    return sum((as_fraction(number) ** 2 for number in numbers), Fraction(0))


def plain_heard_by(echoes, cries):
    """As many heard ones as cries, by the reckoning told of a paper of none."""
    told = []
    for i in range(len(cries)):
        told.append(as_pair(sum(
            (as_fraction(echoes[k]) * as_fraction(cries[i - k]) for k in range(i + 1)), Fraction(0),
        )))
    return told


def plainly_none(echoes, cries):
    """Whether right cries are a paper of none."""
    if not 1 <= len(cries) <= len(echoes):
        return False
    return plain_squares(plain_heard_by(echoes, cries)) > plain_squares(cries)


def never_more_is_heard(echoes):
    """Whether of no cries, as many as numbers, more is heard than is cried: found without any pane.

    The squares cried less those heard are a form in the cries; it is brought to a sum of squares, cry by cry.
    """
    many = len(echoes)
    numbers = [as_fraction(number) for number in echoes]
    heard = [[numbers[i - j] if i >= j else Fraction(0) for j in range(many)] for i in range(many)]
    form = [
        [Fraction(i == j) - sum(row[i] * row[j] for row in heard) for j in range(many)] for i in range(many)
    ]
    while form:
        if any(form[k][k] < 0 for k in range(len(form))):
            return False
        head = next((k for k in range(len(form)) if form[k][k] > 0), None)
        if head is None:
            return not any(any(row) for row in form)
        rest = [k for k in range(len(form)) if k != head]
        form = [
            [form[i][j] - form[i][head] * form[head][j] / form[head][head] for j in rest] for i in rest
        ]
    return True

import copy
import unittest
from unittest import mock

from echopanes.errors import NoPane, Walled
from echopanes.waves import Waves, met
from plain_waves import PlainWaves
from sample_rows import FREE_ROWS, NEAR_MINUS_ONE, NEAR_ONE, ROWS, WALLED_ROWS, WEIGHTS, as_fraction, as_pair, kinds

SIDES = ("left", "right")
MET_ROWS = [row for row in ROWS if row != ((), 0)]
MET_FREE_ROWS = [row for row in FREE_ROWS if row != ((), 0)]
SMALL_ROWS = [row for row in MET_ROWS if len(row[0]) <= 5]
MANY_PANES = [row for row in MET_ROWS if len(row[0]) > 11]

METS = [(0, 1), (1, 2), (-1, 2), (2, 3), (59, 60), NEAR_MINUS_ONE, NEAR_ONE, (-(10 ** 40) + 1, 10 ** 40)]
SIZES = [(0, 1), (1, 1), (-1, 1), (3, 7), (-60, 59), (10 ** 25, 3)]

# What is cried on the right is left out where there is a wall.
SCRIPT = [
    ("beat",), ("cry", "left", (1, 1)), ("beat",), ("cry", "right", (-2, 3)), ("cry", "left", (1, 60)),
    ("cry", "left", (59, 60)), ("beat", 3), ("cry", "right", (5, 1)), ("turn",), ("beat", 2), ("turn",), ("turn",),
    ("cry", "left", (7, 2)), ("cry", "right", (1, 2)), ("cry", "right", (-1, 2)), ("beat", 1), ("turn",),
    ("cry", "left", (-60, 1)), ("cry", "left", (60, 1)), ("beat", 4), ("cry", "right", (0, 1)), ("beat", 2),
]


def script_for(row):
    return [deed for deed in SCRIPT if row[1] == 0 or deed[:2] != ("cry", "right")]


def do(waves, deed):
    word, *parts = deed
    return getattr(waves, word)(*parts)


def done(row, deeds, first=(1, 1)):
    waves = Waves(row, first=first)
    for deed in deeds:
        do(waves, deed)
    return waves


def asked(waves):
    """All that a Waves is asked, but for what compares it."""
    return {
        "on_way": waves.on_way(), "squares": waves.squares(), "beats": waves.beats(), "is_still": waves.is_still(),
        "left": waves.heard("left"), "right": waves.heard("right"),
    }


def cries_of(row):
    """Cries for some beats on, one dict a beat, by their sides."""
    sizes = [(1, 1), (-2, 3), (0, 1), (59, 60), (5, 1), (0, 1), (-1, 7), (60, 59)]
    sides = SIDES if row[1] == 0 else SIDES[:1]
    return [{side: sizes[(at * 3 + 5 * (side == "right")) % 8] for side in sides} for at in range(9)]


class Met(unittest.TestCase):
    def test_by_hand(self):
        self.assertEqual(kinds(met((1, 2), (1, 1), (0, 1))), kinds(((1, 2), (3, 2))))
        self.assertEqual(met((1, 2), (0, 1), (1, 1)), ((1, 2), (-1, 2)))
        self.assertEqual(met((-1, 3), (2, 1), (5, 1)), ((6, 1), (3, 1)))

    def test_as_told(self):
        for pane in METS:
            for one in SIZES:
                for other in SIZES:
                    r, a, b = as_fraction(pane), as_fraction(one), as_fraction(other)
                    told = (as_pair(r * a + (1 - r) * b), as_pair((1 + r) * a - r * b))
                    self.assertEqual(kinds(met(pane, one, other)), kinds(told))

    def test_a_pane_of_nought_lets_all_through(self):
        for one in SIZES:
            for other in SIZES:
                self.assertEqual(met((0, 1), one, other), (other, one))

    def test_of_noughts_nought(self):
        for pane in METS:
            self.assertEqual(met(pane, (0, 1), (0, 1)), ((0, 1), (0, 1)))

    def test_met_once_more_what_left_is_what_came(self):
        for pane in METS:
            for one in SIZES:
                for other in SIZES:
                    left, right = met(pane, one, other)
                    self.assertEqual(met(pane, left, right), (one, other))

    def test_less_itself_it_is_met_from_the_other_side(self):
        for pane in METS:
            for one in SIZES:
                for other in SIZES:
                    turned = met((-pane[0], pane[1]), other, one)
                    self.assertEqual(met(pane, one, other), turned[::-1])

    def test_by_names(self):
        self.assertEqual(met(b=(5, 1), a=(2, 1), pane=(-1, 3)), ((6, 1), (3, 1)))


class Made(unittest.TestCase):
    def test_at_first_nothing_is_on_the_way(self):
        for row in MET_ROWS:
            for waves in (Waves(row), Waves(row, first=(5, 7))):
                rooms = len(row[0]) - 1 + (row[1] != 0)
                self.assertEqual(waves.row(), row)
                self.assertEqual(waves.on_way(), [((0, 1), (0, 1))] * rooms)
                self.assertEqual(waves.squares(), (0, 1))
                self.assertEqual(kinds(waves.beats()), kinds(0))
                self.assertEqual((waves.heard("left"), waves.heard("right")), ([], []))
                self.assertIs(waves.is_still(), True)
                self.assertEqual(len(waves), 0)
                self.assertIs(bool(waves), False)

    def test_no_pane(self):
        for first in WEIGHTS:
            with self.assertRaises(NoPane):
                Waves(((), 0), first=first)
        with self.assertRaises(NoPane):
            Waves(((), 0))

    def test_a_wall_alone_and_a_pane_of_nought_are_enough(self):
        for row in [((), 1), ((), -1), (((0, 1),), 0)]:
            self.assertEqual(Waves(row).on_way(), [])

    def test_by_names(self):
        row = (((1, 2), (1, 3)), 0)
        self.assertEqual(Waves(row=row).row(), row)
        self.assertEqual(Waves(first=(2, 1), row=row), Waves(row, first=(2, 1)))
        with self.assertRaises(TypeError):
            Waves(row, (2, 1))

    def test_the_row_is_told_as_it_was_handed_in(self):
        row = (((1, 2), (0, 1), (0, 1)), 0)
        self.assertEqual(kinds(Waves(row).row()), kinds(row))


class Beats(unittest.TestCase):
    def test_by_hand_one_pane(self):
        waves = Waves((((1, 2),), 0))
        self.assertIsNone(waves.cry("left", (1, 1)))
        self.assertEqual(kinds(waves.beat()), kinds([((1, 2), (3, 2))]))
        waves.cry("right", (1, 1))
        self.assertEqual(waves.beat(2), [((1, 2), (-1, 2)), ((0, 1), (0, 1))])
        self.assertEqual(waves.on_way(), [])

    def test_by_hand_two_panes(self):
        waves = Waves((((1, 2), (1, 3)), 0), first=(3, 1))
        waves.cry("left", (1, 1))
        self.assertEqual(waves.beat(), [((1, 2), (0, 1))])
        self.assertEqual(kinds(waves.on_way()), kinds([((3, 2), (0, 1))]))
        self.assertEqual(waves.squares(), (9, 4))
        self.assertEqual(waves.beat(), [((0, 1), (2, 1))])
        self.assertEqual(waves.on_way(), [((0, 1), (1, 2))])
        self.assertEqual(waves.beat(), [((1, 4), (0, 1))])
        self.assertEqual(waves.on_way(), [((-1, 4), (0, 1))])
        self.assertEqual(waves.heard("left"), [(1, 2), (0, 1), (1, 4)])
        self.assertEqual(waves.heard("right"), [(0, 1), (2, 1), (0, 1)])

    def test_by_hand_a_wall(self):
        for wall in (1, -1):
            waves = Waves(((), wall))
            waves.cry("left", (3, 2))
            self.assertEqual(kinds(waves.beat()), kinds([((3 * wall, 2), (0, 1))]))
            self.assertEqual(waves.beat(), [((0, 1), (0, 1))])
        waves = Waves((((1, 2),), -1))
        waves.cry("left", (1, 1))
        self.assertEqual(waves.beat(2), [((1, 2), (0, 1)), ((0, 1), (0, 1))])
        self.assertEqual(waves.on_way(), [((0, 1), (-3, 2))])
        self.assertEqual(waves.beat(), [((-3, 4), (0, 1))])

    def test_each_ask_behind_each_deed(self):
        for row in MET_ROWS:
            for first in ((1, 1), (5, 7)):
                waves, plain = Waves(row, first=first), PlainWaves(row, first)
                for deed in script_for(row):
                    told, right = do(waves, deed), do(plain, deed)
                    self.assertEqual(kinds(told), kinds(right), (row, deed))
                    self.assertEqual(kinds(asked(waves)), kinds(asked(plain)), (row, deed))
                    self.assertEqual(waves.row(), row)
                    self.assertEqual(len(waves), plain.beats())
                    self.assertIs(bool(waves), plain.beats() > 0)

    def test_forty_beats(self):
        for row in MANY_PANES:
            waves, plain = Waves(row), PlainWaves(row)
            for both in (waves, plain):
                both.cry("left", (60, 59))
                if row[1] == 0:
                    both.cry("right", (-1, 60))
            self.assertEqual(waves.beat(40), plain.beat(40))
            self.assertEqual(asked(waves), asked(plain))

    def test_first_left_out_is_one(self):
        for row in SMALL_ROWS:
            self.assertEqual(Waves(row), Waves(row, first=(1, 1)))

    def test_first_weighs_the_squares_alone(self):
        for row in SMALL_ROWS:
            one = done(row, script_for(row))
            for first in WEIGHTS:
                other = done(row, script_for(row), first)
                self.assertEqual(as_fraction(other.squares()), as_fraction(first) * as_fraction(one.squares()))
                self.assertEqual((other.on_way(), other.heard("left")), (one.on_way(), one.heard("left")))

    def test_beats_by_several_are_beats_one_by_one(self):
        for row in SMALL_ROWS:
            one, other, third = Waves(row), Waves(row), Waves(row)
            for waves in (one, other, third):
                waves.cry("left", (3, 4))
            by_one = one.beat() + one.beat() + one.beat(1) + one.beat(many=2)
            self.assertEqual(other.beat(5), by_one)
            self.assertEqual(third.beat(many=3) + third.beat(2), by_one)
            self.assertEqual((one, other), (other, third))

    def test_cries_ahead_of_one_beat_are_together(self):
        for row in SMALL_ROWS:
            one, other = Waves(row), Waves(row)
            for size in [(1, 2), (1, 3), (-5, 7)]:
                one.cry("left", size)
            other.cry("left", (5, 42))
            other.cry("left", (0, 1))
            self.assertEqual(one, other)
            self.assertEqual(one.beat(4), other.beat(4))

    def test_a_cry_comes_once(self):
        waves = Waves((((1, 2),), 0))
        waves.cry("left", (1, 1))
        waves.cry("right", (1, 1))
        waves.beat()
        self.assertIs(waves.is_still(), True)
        self.assertEqual(waves.beat(), [((0, 1), (0, 1))])

    def test_mirrored_the_sides_are_swapped(self):
        for row in MET_FREE_ROWS:
            mirrored = (tuple((-top, bottom) for top, bottom in reversed(row[0])), 0)
            one, other = Waves(row), Waves(mirrored)
            for size in [(1, 1), (-2, 3), (5, 7)]:
                one.cry("left", size)
                other.cry("right", size)
                self.assertEqual(one.beat(2), [pair[::-1] for pair in other.beat(2)])
            self.assertEqual(one.on_way(), [pair[::-1] for pair in reversed(other.on_way())])

    def test_is_still(self):
        waves = Waves((((1, 2), (1, 3)), 0))
        waves.cry("left", (1, 1))
        self.assertIs(waves.is_still(), False)
        waves.cry("left", (-1, 1))
        self.assertIs(waves.is_still(), True)
        waves.cry("right", (1, 1))
        waves.cry("left", (-1, 1))
        self.assertIs(waves.is_still(), False)
        waves.cry("left", (1, 1))
        waves.cry("right", (-1, 1))
        self.assertIs(waves.is_still(), True)
        waves.cry("right", (1, 2))
        self.assertIs(waves.is_still(), False)
        waves.beat()
        self.assertIs(waves.is_still(), False)
        self.assertEqual(waves.on_way(), [((0, 1), (1, 3))])
        waves = Waves((((0, 1), (0, 1)), 0))
        waves.cry("left", (1, 1))
        waves.beat()
        self.assertIs(waves.is_still(), False)
        waves.beat()
        self.assertIs(waves.is_still(), True)

    def test_methods_by_names(self):
        waves = Waves((((1, 2), (1, 3)), 0))
        self.assertIsNone(waves.cry(size=(1, 1), side="left"))
        self.assertEqual(waves.beat(many=2), [((1, 2), (0, 1)), ((0, 1), (2, 1))])
        self.assertEqual(waves.heard(side="right"), [(0, 1), (2, 1)])


class Turned(unittest.TestCase):
    def test_turn_swaps_what_is_on_the_way_alone(self):
        for row in SMALL_ROWS:
            waves = done(row, script_for(row)[:9])
            waves.cry("left", (1, 3))
            before = asked(waves)
            self.assertIsNone(waves.turn())
            after = asked(waves)
            self.assertEqual(after.pop("on_way"), [pair[::-1] for pair in before.pop("on_way")])
            self.assertEqual(after, before)

    def test_twice_is_as_it_was(self):
        for row in SMALL_ROWS:
            waves = done(row, script_for(row)[:9])
            twin = waves.twin()
            waves.turn()
            waves.turn()
            self.assertEqual(waves, twin)

    def test_cries_that_wait_stay(self):
        waves = Waves((((1, 2), (1, 3)), 0))
        waves.cry("left", (1, 1))
        waves.turn()
        self.assertEqual(waves.beat(), [((1, 2), (0, 1))])

    def test_by_hand(self):
        waves = Waves((((1, 2), (1, 3)), 0))
        waves.cry("left", (1, 1))
        waves.beat()
        waves.turn()
        self.assertEqual(waves.on_way(), [((0, 1), (3, 2))])
        self.assertEqual(waves.beat(), [((3, 4), (0, 1))])

    def go_home(self, waves, beats):
        """Turns about and brings what was heard as cries, the last first: what is heard then."""
        heard = list(zip(waves.heard("left"), waves.heard("right")))[-beats:]
        waves.turn()
        told = []
        for left, right in reversed(heard):
            waves.cry("left", left)
            if waves.row()[1] == 0:
                waves.cry("right", right)
            told += waves.beat()
        return told

    def test_all_comes_home(self):
        for row in MET_ROWS:
            waves = Waves(row, first=(5, 7))
            cries = cries_of(row)
            for sizes in cries:
                for side, size in sizes.items():
                    waves.cry(side, size)
                waves.beat()
            told = self.go_home(waves, len(cries))
            brought = [(sizes["left"], sizes.get("right", (0, 1))) for sizes in cries]
            self.assertEqual(told, brought[::-1])
            self.assertIs(waves.is_still(), True)
            self.assertEqual(waves.beats(), 2 * len(cries))

    def test_home_to_where_it_was_amid_the_waves(self):
        for row in SMALL_ROWS:
            waves = done(row, script_for(row))
            start = waves.on_way()
            waves.cry("left", (2, 7))
            waves.beat(6)
            told = self.go_home(waves, 6)
            self.assertEqual(told, [((0, 1), (0, 1))] * 5 + [((2, 7), (0, 1))])
            waves.turn()
            self.assertEqual(waves.on_way(), start)


class Refused(unittest.TestCase):
    def test_a_cry_at_a_wall(self):
        for row in WALLED_ROWS:
            waves = done(row, script_for(row)[:9])
            waves.cry("left", (1, 3))
            twin = waves.twin()
            for size in [(1, 1), (0, 1), (-3, 4)]:
                with self.assertRaises(Walled):
                    waves.cry("right", size)
                with self.assertRaises(Walled):
                    waves.cry(size=size, side="right")
            self.assertEqual(waves, twin)
            self.assertEqual(asked(waves), asked(twin))
            self.assertEqual(waves.beat(3), twin.beat(3))

    def test_without_a_wall_it_is_not(self):
        for row in MET_FREE_ROWS:
            self.assertIsNone(Waves(row).cry("right", (1, 1)))


class Ledger(unittest.TestCase):
    def test_it_is_even_at_each_beat(self):
        for row in MET_ROWS:
            for first in WEIGHTS[:4]:
                waves, plain = Waves(row, first=first), PlainWaves(row, first)
                last = plain.weights[-1]
                for deed in script_for(row):
                    do(waves, deed)
                    do(plain, deed)
                    left = sum(as_fraction(number) ** 2 for number in waves.heard("left"))
                    right = sum(as_fraction(number) ** 2 for number in waves.heard("right"))
                    heard = as_fraction(first) * left + last * right
                    self.assertEqual(plain.cried, heard + as_fraction(waves.squares()))


class Sums(unittest.TestCase):
    def test_what_is_heard_is_the_sum_of_each_cry_by_itself(self):
        for row in SMALL_ROWS:
            deeds = script_for(row)
            sums = [[0] * done(row, deeds).beats() for side in SIDES]
            for at, deed in enumerate(deeds):
                if deed[0] == "cry":
                    alone = [other for k, other in enumerate(deeds) if other[0] != "cry" or k == at]
                    heard = [done(row, alone).heard(side) for side in SIDES]
                    sums = [
                        [one + as_fraction(more) for one, more in zip(total, part)]
                        for total, part in zip(sums, heard)
                    ]
            together = done(row, deeds)
            for total, side in zip(sums, SIDES):
                self.assertEqual([as_pair(as_fraction((0, 1)) + number) for number in total], together.heard(side))


class Twins(unittest.TestCase):
    def test_a_twin_is_alike_and_on_its_own(self):
        for row in SMALL_ROWS:
            for many in range(len(script_for(row))):
                waves = done(row, script_for(row)[:many], first=(5, 7))
                twin = waves.twin()
                kept = asked(waves)
                self.assertIsInstance(twin, Waves)
                self.assertEqual(twin, waves)
                self.assertEqual((twin.row(), asked(twin)), (row, kept))
                twin.cry("left", (1, 1))
                twin.beat(2)
                twin.turn()
                self.assertEqual(asked(waves), kept)
                other = waves.twin()
                waves.cry("left", (1, 1))
                self.assertEqual(asked(other), kept)
                waves.beat(2)
                waves.turn()
                self.assertEqual(waves, twin)
                self.assertEqual(waves.squares(), twin.squares())


class Compared(unittest.TestCase):
    def same(self, one, other):
        self.assertIs(one == other, True)
        self.assertIs(other == one, True)
        self.assertIs(one != other, False)

    def unlike(self, one, other):
        self.assertIs(one == other, False)
        self.assertIs(other == one, False)
        self.assertIs(one != other, True)

    def test_alike(self):
        for row in SMALL_ROWS:
            for many in (0, 3, 8, 40):
                self.same(done(row, script_for(row)[:many]), done(row, script_for(row)[:many]))

    def test_each_step_of_a_script_is_unlike_the_next_where_something_is_changed(self):
        row = (((1, 2), (-1, 3), (2, 5)), 0)
        self.unlike(Waves(row), done(row, [("cry", "left", (1, 1))]))
        self.unlike(done(row, [("cry", "left", (1, 1))]), done(row, [("cry", "right", (1, 1))]))
        self.unlike(done(row, [("cry", "left", (1, 1))]), done(row, [("cry", "left", (1, 2))]))
        self.unlike(Waves(row), done(row, [("beat",)]))
        went = [("cry", "left", (1, 1)), ("beat", 2)]
        self.unlike(done(row, went), done(row, went + [("turn",)]))
        self.unlike(done(row, went), done(row, went + [("beat",)]))
        self.unlike(done(row, went), done(row, [("cry", "left", (-1, 1)), ("beat", 2)]))
        self.same(Waves(row), done(row, [("turn",)]))

    def test_cries_that_wait_count_together(self):
        row = (((1, 2), (-1, 3)), 0)
        self.same(Waves(row), done(row, [("cry", "left", (1, 1)), ("cry", "left", (-1, 1))]))
        one = done(row, [("cry", "left", (1, 2)), ("cry", "right", (1, 1)), ("cry", "left", (1, 3))])
        other = done(row, [("cry", "right", (1, 1)), ("cry", "left", (5, 6))])
        self.same(one, other)
        self.unlike(one, done(row, [("cry", "left", (1, 1)), ("cry", "right", (5, 6))]))

    def test_rows_and_first(self):
        panes = ((1, 2), (-1, 3))
        one = Waves((panes, 0))
        for other in [(panes, 1), (panes, -1), (panes + ((0, 1),), 0), (panes[:1], 0), (panes[::-1], 0)]:
            self.unlike(one, Waves(other))
        self.unlike(Waves((panes, 1)), Waves((panes, -1)))
        self.unlike(one, Waves((panes, 0), first=(2, 1)))
        self.same(Waves((panes, 0), first=(2, 1)), Waves((panes, 0), first=(2, 1)))
        self.unlike(Waves(((), 1)), Waves(((), 1), first=(1, 2)))

    def test_heard_alone_may_be_unlike(self):
        row = (((1, 2),), 0)
        self.unlike(done(row, [("cry", "left", (1, 1)), ("beat",)]), done(row, [("beat",)]))
        # What is heard on one side alone tells these apart: all goes through the pane of 0.
        row = (((0, 1),), 0)
        self.unlike(done(row, [("cry", "left", (1, 1)), ("beat",)]), done(row, [("beat",)]))
        self.unlike(done(row, [("cry", "right", (1, 1)), ("beat",)]), done(row, [("beat",)]))

    def test_things_of_other_classes(self):
        row = (((1, 2),), 0)
        waves = Waves(row)
        class Other:
            def __init__(self):
                vars(self).update(vars(waves))
        for thing in [row, None, 0, False, "", [], (), {}, Waves, PlainWaves(row), Other(), object(), row[0]]:
            self.unlike(waves, thing)
        self.assertIs(waves == mock.ANY, False)


class Own(unittest.TestCase):
    def test_told_lists_are_the_askers_own(self):
        for row in [(((1, 2), (-1, 3), (2, 5)), 0), (((1, 2), (-1, 3)), -1), ((), 1)]:
            waves = done(row, script_for(row))
            twin, kept = waves.twin(), copy.deepcopy(asked(waves))
            for ask in (waves.on_way, lambda: waves.heard("left"), lambda: waves.heard("right")):
                told = ask()
                self.assertIsNot(told, ask())
                told.append("more")
                told[0] = None
                self.assertEqual(asked(waves), kept)
            told = waves.beat(2)
            told.clear()
            self.assertEqual((waves.beat(), waves), (twin.beat(3)[2:], twin))

    def test_asked_again_the_same_is_told(self):
        for row in SMALL_ROWS:
            waves = done(row, script_for(row))
            self.assertEqual(asked(waves), asked(waves))
            self.assertIs(waves == waves, True)

    def test_what_is_handed_in_stays(self):
        row = (((1, 2), (-1, 3)), 0)
        kept = copy.deepcopy(row)
        waves = done(row, script_for(row))
        self.assertEqual(kinds(row), kinds(kept))
        self.assertEqual(kinds(waves.row()), kinds(kept))

    def test_no_two_are_one(self):
        row = (((1, 2), (-1, 3)), 0)
        one, other = Waves(row), Waves(row)
        one.cry("left", (1, 1))
        one.beat()
        self.assertEqual(other, Waves(row))

    def test_methods_stand_in_the_class(self):
        for name in ("cry beat turn row on_way squares beats heard is_still twin __eq__ __len__ __init__").split():
            self.assertIn(name, vars(Waves))


if __name__ == "__main__":
    unittest.main()

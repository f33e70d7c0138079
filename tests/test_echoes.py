import copy
import unittest

from echopanes.echoes import echo, echoes_of, heard_of, through
from echopanes.errors import NoCry, NoPane, Walled
from echopanes.rooms import rooms_of
from echopanes.rows import joined, mirrored, trimmed
from echopanes.waves import Waves
from plain_waves import PlainWaves, plain_echo, plain_heard
from sample_rows import FREE_ROWS, ROWS, WALLED_ROWS, WEIGHTS, as_fraction, as_pair, kinds

CRIES = [
    [],
    [(0, 1)],
    [(1, 1)],
    [(0, 1), (0, 1), (2, 3)],
    [(1, 2), (-1, 3), (0, 1), (59, 60)],
    [(-60, 59), (5, 1)] * 12,
    [(10 ** 30, 7), (1, 10 ** 30)],
]
FIRST_CRIES = [cries for cries in CRIES if cries and cries[0] != (0, 1)]
PANED_ROWS = [row for row in FREE_ROWS if row[0]]
SMALL_ROWS = [row for row in ROWS if len(row[0]) <= 5]
NOUGHT = (0, 1)


def plain_through(row, many, side):
    waves = PlainWaves(row)
    waves.cry(side, (1, 1))
    heard = waves.beat(len(row[0]) + 2 * many)
    other = 1 if side == "left" else 0
    return [pair[other] for pair in heard[len(row[0]) - 1::2]][:many]


class Echo(unittest.TestCase):
    def test_by_hand(self):
        self.assertEqual(kinds(echo((((1, 2), (1, 3)), 0), 3)), kinds([(1, 2), (1, 4), (-1, 24)]))
        self.assertEqual(echo((((1, 2),), 0), 3), [(1, 2), NOUGHT, NOUGHT])
        self.assertEqual(echo((((1, 2),), -1), 3), [(1, 2), (-3, 4), (-3, 8)])
        self.assertEqual(echo(((), -1), 3), [(-1, 1), NOUGHT, NOUGHT])
        self.assertEqual(echo((((0, 1), (0, 1)), 1), 5), [NOUGHT, NOUGHT, (1, 1), NOUGHT, NOUGHT])

    def test_of_a_row_without_pane_and_wall_all_are_nought(self):
        for many in (0, 1, 24, 40):
            self.assertEqual(kinds(echo(((), 0), many)), kinds([NOUGHT] * many))

    def test_as_waves_are_heard(self):
        for row in ROWS:
            for many in (0, 1, 2, 5, 14):
                self.assertEqual(kinds(echo(row, many)), kinds(plain_echo(row, many)), row)

    def test_forty_numbers(self):
        for row in [row for row in ROWS if len(row[0]) > 11]:
            told = echo(row, 40)
            self.assertEqual(told, plain_echo(row, 40))
            for many in range(40):
                self.assertEqual(echo(row, many), told[:many])

    def test_beside_waves_of_the_same_row(self):
        for row in ROWS:
            if row != ((), 0):
                waves = Waves(row, first=(5, 7))
                waves.cry("left", (1, 1))
                waves.beat(19)
                self.assertEqual(waves.heard("left")[::2], echo(row, 10))
                self.assertEqual(waves.heard("left")[1::2], [NOUGHT] * 9)

    def test_last_panes_of_nought_change_nothing(self):
        for row in FREE_ROWS:
            self.assertEqual(echo(trimmed(row), 20), echo(row, 20))

    def test_very_many_panes(self):
        row = (((1, 2), (-1, 3)) * 2500, 1)
        self.assertEqual(echo(row, 5), plain_echo((row[0][:6], 0), 5))

    def test_by_names(self):
        self.assertEqual(echo(many=2, row=(((1, 2), (1, 3)), 0)), [(1, 2), (1, 4)])

    def test_the_told_list_is_the_askers_own(self):
        for row in SMALL_ROWS:
            told = echo(row, 4)
            kept = list(told)
            told[0] = None
            told.append(None)
            self.assertEqual(echo(row, 4), kept)


class ToldApart(unittest.TestCase):
    def test_at_the_first_pane_that_is_not_alike_no_earlier(self):
        ahead = ((1, 2), (-1, 3), NOUGHT, (59, 60), (2, 5))
        for many in range(len(ahead) + 1):
            one = (ahead[:many] + ((1, 7),), 0)
            for other in [(ahead[:many] + ((1, 8), (1, 2)), 1), (ahead[:many] + ((-1, 7),), 0), (ahead[:many], 0),
                          (ahead[:many], 1), (ahead[:many], -1)]:
                self.assertEqual(echo(one, many), echo(other, many))
                self.assertNotEqual(echo(one, many + 1)[many], echo(other, many + 1)[many])

    def test_rows_of_all_kinds(self):
        behind = ((3, 4), (1, 5))
        for row in PANED_ROWS:
            for at, pane in enumerate(row[0]):
                nearer_one = as_pair((1 + as_fraction(pane)) / 2)
                other = (row[0][:at] + (nearer_one,) + behind, -1)
                told, others = echo(row, at + 1), echo(other, at + 1)
                self.assertEqual(told[:at], others[:at])
                self.assertNotEqual(told[at], others[at])


class HeardOf(unittest.TestCase):
    def test_by_hand(self):
        row = (((1, 2),), -1)
        self.assertEqual(kinds(heard_of(row, [(2, 1), (4, 1)], 3)), kinds([(1, 1), (1, 2), (-15, 4)]))
        self.assertEqual(heard_of(row, [(2, 1), (4, 1)], 0), [])
        self.assertEqual(heard_of(row, [], 2), [NOUGHT, NOUGHT])

    def test_as_waves_are_heard(self):
        for row in SMALL_ROWS:
            for cries in CRIES:
                for many in (0, 1, 3, 8):
                    self.assertEqual(kinds(heard_of(row, cries, many)), kinds(plain_heard(row, cries, many)))

    def test_forty_numbers(self):
        for row in [row for row in ROWS if len(row[0]) > 11]:
            self.assertEqual(heard_of(row, CRIES[5], 40), plain_heard(row, CRIES[5], 40))

    def test_beside_waves_of_the_same_row(self):
        for row in SMALL_ROWS:
            if row != ((), 0):
                waves = Waves(row)
                for size in CRIES[4] + [NOUGHT] * 4:
                    waves.cry("left", size)
                    waves.beat(2)
                self.assertEqual(heard_of(row, CRIES[4], 8), waves.heard("left")[::2])

    def test_of_a_cry_of_one_it_is_the_echo(self):
        for row in ROWS:
            self.assertEqual(heard_of(row, [(1, 1)], 9), echo(row, 9))

    def test_it_is_the_sum_of_each_cry_by_itself(self):
        for row in SMALL_ROWS:
            for cries in CRIES:
                sums = [as_fraction(NOUGHT)] * 9
                for at, cry in enumerate(cries):
                    alone = heard_of(row, [NOUGHT] * at + [cry], 9)
                    sums = [one + as_fraction(more) for one, more in zip(sums, alone)]
                self.assertEqual(heard_of(row, cries, 9), [as_pair(number) for number in sums])

    def test_cries_as_a_tuple(self):
        for cries in CRIES:
            self.assertEqual(heard_of(ROWS[9], tuple(cries), 6), heard_of(ROWS[9], cries, 6))

    def test_cries_stay_as_they_are(self):
        for cries in CRIES:
            kept = copy.deepcopy(cries)
            told = heard_of(ROWS[9], cries, 6)
            told.append(None)
            self.assertEqual(kinds(cries), kinds(kept))

    def test_by_names(self):
        self.assertEqual(heard_of(many=2, cries=[(2, 1)], row=(((1, 2), (1, 3)), 0)), [(1, 1), (1, 2)])


class EchoesOf(unittest.TestCase):
    def test_by_hand(self):
        self.assertEqual(kinds(echoes_of([(2, 1), (4, 1), NOUGHT], [(1, 1), (1, 2), (-15, 4)])),
                         kinds([(1, 2), (-3, 4), (-3, 8)]))
        self.assertEqual(echoes_of([(2, 1)], [(1, 1), (1, 2)]), [(1, 2)])
        self.assertEqual(echoes_of([(1, 2), (1, 3)], []), [])

    def test_of_what_heard_of_tells(self):
        for row in ROWS:
            for cries in FIRST_CRIES:
                for many in (0, 1, 3, 12, 24):
                    heard = heard_of(row, cries, many)
                    self.assertEqual(kinds(echoes_of(cries, heard)), kinds(echo(row, min(len(cries), many))))

    def test_of_unlike_lengths_it_is_as_long_as_the_shorter(self):
        cries = [(3, 5), (1, 2), (-7, 1), NOUGHT, (2, 9)]
        heard = [(5, 1), NOUGHT, (-1, 3), (10 ** 20, 3), (1, 1)]
        told = echoes_of(cries, heard)
        for one in range(1, 6):
            for other in range(6):
                self.assertEqual(echoes_of(cries[:one], heard[:other]), told[:min(one, other)])

    def test_by_these_the_cries_are_heard_so(self):
        lists = [numbers for numbers in CRIES if numbers]
        for cries in FIRST_CRIES:
            for heard in lists:
                told = echoes_of(cries, heard)
                self.assertEqual(len(told), min(len(cries), len(heard)))
                for at in range(len(told)):
                    total = sum(as_fraction(told[k]) * as_fraction(cries[at - k]) for k in range(at + 1))
                    self.assertEqual(as_pair(total), heard[at])

    def test_no_cry(self):
        for cries in [[], (), [NOUGHT], [NOUGHT, (1, 1)], (NOUGHT, (1, 2), (1, 3))]:
            for heard in [[], (), [NOUGHT], [(1, 1), (2, 1)]]:
                with self.assertRaises(NoCry):
                    echoes_of(cries, heard)

    def test_lists_as_tuples(self):
        cries, heard = [(3, 5), (1, 2), (-7, 1)], [(5, 1), NOUGHT]
        told = echoes_of(cries, heard)
        self.assertEqual(kinds(echoes_of(tuple(cries), tuple(heard))), kinds(told))
        self.assertEqual(echoes_of(tuple(cries), heard), told)
        self.assertEqual(echoes_of(cries, tuple(heard)), told)

    def test_what_is_handed_in_stays(self):
        cries, heard = [(3, 5), (1, 2), (-7, 1)], [(5, 1), NOUGHT]
        told = echoes_of(cries, heard)
        told[0] = None
        self.assertEqual((cries, heard), ([(3, 5), (1, 2), (-7, 1)], [(5, 1), NOUGHT]))
        self.assertEqual(echoes_of(cries, heard)[0], (25, 3))

    def test_by_names(self):
        self.assertEqual(echoes_of(heard=[(1, 1)], cries=[(2, 1)]), [(1, 2)])


class Through(unittest.TestCase):
    def test_by_hand(self):
        row = (((1, 2), (1, 3)), 0)
        self.assertEqual(kinds(through(row, 3)), kinds([(2, 1), (-1, 3), (1, 18)]))
        self.assertEqual(through(row, 3, side="right"), [(1, 3), (-1, 18), (1, 108)])
        self.assertEqual(through((((1, 2),), 0), 3), [(3, 2), NOUGHT, NOUGHT])
        self.assertEqual(through((((1, 2),), 0), 2, side="right"), [(1, 2), NOUGHT])
        self.assertEqual(through(((NOUGHT, NOUGHT), 0), 2), [(1, 1), NOUGHT])

    def test_as_waves_are_heard(self):
        for row in PANED_ROWS:
            for side in ("left", "right"):
                for many in (0, 1, 2, 9):
                    told = through(row, many, side=side)
                    self.assertEqual(kinds(told), kinds(plain_through(row, many, side)), row)

    def test_forty_numbers(self):
        for row in [row for row in PANED_ROWS if len(row[0]) > 11]:
            for side in ("left", "right"):
                self.assertEqual(through(row, 40, side=side), plain_through(row, 40, side))

    def test_beside_waves_of_the_same_row(self):
        for row in PANED_ROWS:
            for side, other in (("left", "right"), ("right", "left")):
                waves = Waves(row)
                waves.cry(side, (1, 1))
                waves.beat(len(row[0]) + 10)
                heard = waves.heard(other)
                at = len(row[0]) - 1
                self.assertEqual(heard[:at], [NOUGHT] * at)
                self.assertEqual(heard[at::2], through(row, 6, side=side))
                self.assertEqual(heard[at + 1::2], [NOUGHT] * 5)

    def test_side_left_out_is_the_left(self):
        for row in PANED_ROWS:
            self.assertEqual(through(row, 5), through(row, 5, side="left"))

    def test_alike_from_either_end_weighed_by_the_outer_rooms(self):
        for row in PANED_ROWS:
            for first in WEIGHTS:
                rooms = rooms_of(row, first=first)
                one = [as_fraction(rooms[-1]) * as_fraction(number) for number in through(row, 8)]
                other = [as_fraction(rooms[0]) * as_fraction(number) for number in through(row, 8, side="right")]
                self.assertEqual(one, other)

    def test_from_the_right_it_is_the_mirrored_one_from_the_left(self):
        for row in PANED_ROWS:
            self.assertEqual(through(row, 7, side="right"), through(mirrored(row), 7))

    def test_one_more_pane_of_nought_is_only_a_beat_more(self):
        for row in PANED_ROWS:
            self.assertEqual(through(joined(row, ((NOUGHT,), 0)), 7), through(row, 7))

    def test_at_a_wall_all_are_nought(self):
        for row in WALLED_ROWS:
            if row[0]:
                for many in (0, 1, 40):
                    self.assertEqual(kinds(through(row, many)), kinds([NOUGHT] * many))
                    self.assertEqual(through(row, many, side="left"), [NOUGHT] * many)

    def test_walled_from_the_right(self):
        for row in WALLED_ROWS:
            for many in (0, 1, 5):
                with self.assertRaises(Walled):
                    through(row, many, side="right")

    def test_no_pane(self):
        for many in (0, 1, 5):
            for side in ("left", "right"):
                with self.assertRaises(NoPane):
                    through(((), 0), many, side=side)
            for wall in (1, -1):
                with self.assertRaises(NoPane):
                    through(((), wall), many)
                with self.assertRaises(NoPane):
                    through(((), wall), many, side="left")

    def test_walled_ahead_of_no_pane(self):
        for wall in (1, -1):
            with self.assertRaises(Walled):
                through(((), wall), 3, side="right")

    def test_by_names(self):
        row = (((1, 2), (1, 3)), 0)
        self.assertEqual(through(side="right", many=1, row=row), [(1, 3)])
        with self.assertRaises(TypeError):
            through(row, 1, "right")

    def test_the_told_list_is_the_askers_own(self):
        for row in [(((1, 2), (1, 3)), 0), (((1, 2), (1, 3)), 1)]:
            told = through(row, 3)
            kept = list(told)
            told[0] = None
            self.assertEqual(through(row, 3), kept)


if __name__ == "__main__":
    unittest.main()

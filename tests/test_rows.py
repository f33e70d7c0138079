import copy
import unittest

from echopanes.errors import Walled
from echopanes.rows import is_row, joined, mirrored, trimmed
from sample_rows import FREE_ROWS, ROWS, WALLED_ROWS, kinds
from wrong_things import SWAPS, WRONG_ROWS, plainly_row, with_one_part_swapped


class IsRow(unittest.TestCase):
    def test_rows_are_rows(self):
        for row in ROWS:
            self.assertIs(is_row(row), True, row)

    def test_very_many_panes(self):
        self.assertIs(is_row((((1, 2),) * 5000, 1)), True)
        self.assertIs(is_row((((1, 2),) * 5000 + ((1, 1),), 1)), False)

    def test_anything_else_is_none(self):
        for thing in WRONG_ROWS:
            self.assertIs(is_row(thing), False, thing)

    def test_rows_with_one_part_swapped(self):
        rows = [((), 0), (((1, 2),), 1), (((0, 1), (-2, 3)), -1)]
        right = 0
        for row in rows:
            for swap in SWAPS:
                for thing in with_one_part_swapped(row, swap):
                    self.assertIs(is_row(thing), plainly_row(thing), thing)
                    right += plainly_row(thing)
        self.assertGreater(right, 20)

    def test_the_thing_stays_as_it_is(self):
        for thing in ROWS + WRONG_ROWS:
            kept = copy.deepcopy(thing)
            is_row(thing)
            self.assertEqual(kinds(thing), kinds(kept))

    def test_by_name(self):
        self.assertIs(is_row(thing=((), 0)), True)
        self.assertIs(is_row(thing=[(), 0]), False)


class Trimmed(unittest.TestCase):
    def test_last_noughts_go(self):
        told = [
            ((), ()),
            (((0, 1),), ()),
            (((0, 1), (0, 1)), ()),
            (((1, 2),), ((1, 2),)),
            (((1, 2), (0, 1)), ((1, 2),)),
            (((0, 1), (1, 2)), ((0, 1), (1, 2))),
            (((0, 1), (1, 2), (0, 1), (-1, 2), (0, 1), (0, 1)), ((0, 1), (1, 2), (0, 1), (-1, 2))),
            (((0, 1),) * 13, ()),
        ]
        for panes, left in told:
            self.assertEqual(trimmed((panes, 0)), (left, 0))

    def test_a_walled_row_stays(self):
        for row in WALLED_ROWS:
            self.assertEqual(trimmed(row), row)

    def test_twice_is_once(self):
        for row in ROWS:
            self.assertEqual(trimmed(trimmed(row)), trimmed(row))

    def test_only_noughts_are_taken(self):
        for row in FREE_ROWS:
            panes, wall = trimmed(row)
            lack = len(row[0]) - len(panes)
            self.assertEqual(panes + ((0, 1),) * lack, row[0])
            self.assertNotEqual(panes[-1:], ((0, 1),))

    def test_by_name(self):
        self.assertEqual(trimmed(row=(((1, 2), (0, 1)), 0)), (((1, 2),), 0))


class Mirrored(unittest.TestCase):
    def test_turned_about_and_less_itself(self):
        self.assertEqual(mirrored(((), 0)), ((), 0))
        self.assertEqual(mirrored((((1, 2),), 0)), (((-1, 2),), 0))
        row = (((1, 2), (0, 1), (-3, 5), (0, 1)), 0)
        self.assertEqual(mirrored(row), (((0, 1), (3, 5), (0, 1), (-1, 2)), 0))

    def test_twice_is_the_row(self):
        for row in FREE_ROWS:
            self.assertEqual(mirrored(mirrored(row)), row)

    def test_walled(self):
        for row in WALLED_ROWS:
            with self.assertRaises(Walled):
                mirrored(row)

    def test_by_name(self):
        self.assertEqual(mirrored(row=(((1, 2),), 0)), (((-1, 2),), 0))


class Joined(unittest.TestCase):
    def test_panes_and_the_second_wall(self):
        for one in FREE_ROWS:
            for other in ROWS:
                self.assertEqual(joined(one, other), (one[0] + other[0], other[1]))

    def test_walled(self):
        for one in WALLED_ROWS:
            for other in [((), 0), ((), 1), (((1, 2),), -1)]:
                with self.assertRaises(Walled):
                    joined(one, other)

    def test_mirrored_it_is_the_mirrored_ones_the_other_way(self):
        for one in FREE_ROWS:
            for other in FREE_ROWS:
                self.assertEqual(mirrored(joined(one, other)), joined(mirrored(other), mirrored(one)))

    def test_by_name(self):
        one, other = (((1, 2),), 0), (((1, 3),), -1)
        self.assertEqual(joined(one=one, other=other), (((1, 2), (1, 3)), -1))
        self.assertEqual(joined(other=other, one=one), (((1, 2), (1, 3)), -1))


class WhatIsTold(unittest.TestCase):
    def test_rows_are_told(self):
        for row in FREE_ROWS:
            for told in (trimmed(row), mirrored(row), joined(row, row)):
                self.assertIs(is_row(told), True)
        for row in WALLED_ROWS:
            self.assertIs(is_row(trimmed(row)), True)
            self.assertIs(is_row(joined(((), 0), row)), True)


if __name__ == "__main__":
    unittest.main()

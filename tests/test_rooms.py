import unittest

from echopanes.rooms import rooms_of, row_of
from echopanes.rows import is_row, joined, mirrored
from sample_rows import FREE_ROWS, PANES, ROWS, WEIGHTS, as_fraction, as_pair, kinds, plainly_fraction


def plain_rooms(row, first):
    weights = [as_fraction(first)]
    for pane in row[0]:
        weights.append(weights[-1] * (1 - as_fraction(pane)) / (1 + as_fraction(pane)))
    return [as_pair(weight) for weight in weights]


ROOMS = [
    [(1, 1)],
    [(5, 7)],
    [(1, 1), (1, 1)],
    [(1, 1), (1, 3)],
    [(12, 1), (1, 12), (12, 1)],
    [(3, 2), (3, 2), (5, 1), (5, 1), (5, 1)],
    [(k, 13 - k) for k in range(1, 13)] + [(1, 1)],
    [(1, 2)] * 20,
    [(10 ** 30, 7), (1, 10 ** 30)],
]


class RoomsOf(unittest.TestCase):
    def test_by_hand(self):
        self.assertEqual(rooms_of(((), 0)), [(1, 1)])
        self.assertEqual(rooms_of(((), -1), first=(2, 3)), [(2, 3)])
        self.assertEqual(rooms_of((((1, 2),), 0)), [(1, 1), (1, 3)])
        self.assertEqual(rooms_of((((-1, 2),), 0)), [(1, 1), (3, 1)])
        self.assertEqual(rooms_of((((1, 2), (0, 1), (-1, 3)), 1), first=(3, 2)), [(3, 2), (1, 2), (1, 2), (1, 1)])

    def test_each_next_one(self):
        for row in ROWS:
            for first in WEIGHTS:
                told = rooms_of(row, first=first)
                self.assertEqual(kinds(told), kinds(plain_rooms(row, first)))

    def test_first_left_out_is_one(self):
        for row in ROWS:
            self.assertEqual(rooms_of(row), rooms_of(row, first=(1, 1)))

    def test_weights_are_told(self):
        for row in ROWS:
            told = rooms_of(row, first=(5, 7))
            self.assertIs(type(told), list)
            self.assertEqual(len(told), len(row[0]) + 1)
            self.assertTrue(all(plainly_fraction(weight) and weight[0] > 0 for weight in told))

    def test_the_wall_weighs_nothing(self):
        for panes in PANES:
            self.assertEqual(rooms_of((panes, 1)), rooms_of((panes, 0)))
            self.assertEqual(rooms_of((panes, -1)), rooms_of((panes, 0)))

    def test_the_told_list_is_the_askers_own(self):
        for row in ROWS:
            told = rooms_of(row)
            kept = list(told)
            told.append(told.pop(0))
            told[0] = None
            self.assertEqual(rooms_of(row), kept)

    def test_by_names_and_places(self):
        row = (((1, 2),), 0)
        self.assertEqual(rooms_of(row=row), [(1, 1), (1, 3)])
        self.assertEqual(rooms_of(first=(3, 1), row=row), [(3, 1), (1, 1)])
        with self.assertRaises(TypeError):
            rooms_of(row, (3, 1))


class RowOf(unittest.TestCase):
    def test_by_hand(self):
        self.assertEqual(row_of([(1, 1)]), ((), 0))
        self.assertEqual(row_of([(5, 7)], wall=-1), ((), -1))
        self.assertEqual(row_of([(1, 1), (1, 3)]), (((1, 2),), 0))
        self.assertEqual(row_of([(1, 3), (1, 1)], wall=1), (((-1, 2),), 1))
        self.assertEqual(row_of([(3, 2), (1, 2), (1, 2), (1, 1)]), (((1, 2), (0, 1), (-1, 3)), 0))

    def test_of_each_two_side_by_side(self):
        for rooms in ROOMS:
            weights = [as_fraction(weight) for weight in rooms]
            panes = [as_pair((one - other) / (one + other)) for one, other in zip(weights, weights[1:])]
            for wall in (0, 1, -1):
                self.assertEqual(kinds(row_of(rooms, wall=wall)), kinds((tuple(panes), wall)))

    def test_wall_left_out_is_none(self):
        for rooms in ROOMS:
            self.assertEqual(row_of(rooms), row_of(rooms, wall=0))

    def test_a_row_is_told(self):
        for rooms in ROOMS:
            for wall in (0, 1, -1):
                self.assertIs(is_row(row_of(rooms, wall=wall)), True)

    def test_rooms_alike_have_a_pane_of_nought_between(self):
        for many in range(1, 15):
            self.assertEqual(row_of([(5, 7)] * many), (((0, 1),) * (many - 1), 0))

    def test_rooms_as_a_tuple(self):
        for rooms in ROOMS:
            for wall in (0, 1, -1):
                self.assertEqual(row_of(tuple(rooms), wall=wall), row_of(rooms, wall=wall))

    def test_rooms_stay_as_they_are(self):
        for rooms in ROOMS:
            handed = list(rooms)
            row_of(handed)
            self.assertEqual(kinds(handed), kinds(rooms))

    def test_rooms_are_not_kept(self):
        handed = [(1, 1), (1, 3)]
        told = row_of(handed)
        handed[1] = (3, 1)
        handed.append((1, 1))
        self.assertEqual(told, (((1, 2),), 0))

    def test_by_names_and_places(self):
        rooms = [(1, 1), (1, 3)]
        self.assertEqual(row_of(rooms=rooms), (((1, 2),), 0))
        self.assertEqual(row_of(wall=-1, rooms=rooms), (((1, 2),), -1))
        with self.assertRaises(TypeError):
            row_of(rooms, -1)


class EachFromTheOther(unittest.TestCase):
    def test_a_row_from_its_rooms(self):
        for row in ROWS:
            for first in WEIGHTS:
                self.assertEqual(row_of(rooms_of(row, first=first), wall=row[1]), row)

    def test_rooms_from_their_row(self):
        for rooms in ROOMS:
            for wall in (0, 1, -1):
                self.assertEqual(rooms_of(row_of(rooms, wall=wall), first=rooms[0]), rooms)

    def test_met_from_the_right_the_rooms_are_turned_about(self):
        for row in FREE_ROWS:
            for first in WEIGHTS:
                rooms = rooms_of(row, first=first)
                self.assertEqual(rooms_of(mirrored(row), first=rooms[-1]), rooms[::-1])
                self.assertEqual(row_of(rooms[::-1]), mirrored(row))

    def test_joined_the_others_rooms_are_weighed_on(self):
        for one in FREE_ROWS:
            for other in FREE_ROWS:
                ahead = rooms_of(one, first=(5, 7))
                behind = rooms_of(other, first=ahead[-1])
                self.assertEqual(rooms_of(joined(one, other), first=(5, 7)), ahead + behind[1:])


if __name__ == "__main__":
    unittest.main()

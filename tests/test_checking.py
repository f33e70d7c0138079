import copy
import unittest

from echopanes.checking import shows_none, shows_row
from echopanes.echoes import echo
from echopanes.finding import found_back
from plain_waves import plain_echo, plainly_none
from sample_echoes import BEYOND, NOUGHT, ROW_LISTS, SHORT
from sample_rows import ROWS, kinds, plainly_fraction
from wrong_things import SWAPS, WRONG_ROWS, plainly_row, with_one_part_swapped

BOUND_ROWS = [row for row in ROWS if len(row[0]) <= 13]

WRONG_PAPERS = [
    # not a list
    None, True, False, 0, 1, "", "none", "1", (), ((1, 1),), ((1, 1), (0, 1)), (1, 1),
    # none at all
    [],
    # parts that are no FRACTIONs
    [1], [True], [None], [""], ["1"], ["11"], [()], [[]], [[1, 1]], [(1,)], [(1, 1, 1)], [(True, 1)], [(1, True)],
    [(2, 2)], [(0, 2)], [(1, 0)], [(0, 0)], [(1, -1)], [(-1, -1)], [("1", 1)], [(1, None)], [((1, 1), 1)],
    [((1, 1), (1, 1))], [[(1, 1)]], [((1, 1),)], [(1, 1), 1], [(1, 1), [0, 1]], [(1, 1), (0, 2)], [(1, 1), None],
    [(1, 1), (False, 1)],
    # six deep
    [[[[[[1]]]]]], ((((((1, 1),),),),),), [([([([1],)],)],)], [(1, ((((1,),),),))],
]


def plainly_shows_none(echoes, thing):
    right = type(thing) is list and all(plainly_fraction(cry) for cry in thing)
    return right and plainly_none(echoes, thing)


def plainly_shows_row(echoes, thing):
    return plainly_row(thing) and plain_echo(thing, len(echoes)) == list(echoes)


class ShowsRow(unittest.TestCase):
    def test_any_row_whose_echo_begins_so(self):
        for row in ROWS:
            for many in (0, 1, 2, 5, 14):
                self.assertIs(shows_row(plain_echo(row, many), row), True)

    def test_rows_with_more_behind(self):
        echoes = plain_echo((((1, 2), (-1, 3)), 0), 2)
        for more in [(), (NOUGHT,), ((1, 2),), ((59, 60), NOUGHT)]:
            for wall in (0, 1, -1):
                self.assertIs(shows_row(echoes, (((1, 2), (-1, 3)) + more, wall)), True)

    def test_last_panes_of_nought(self):
        for many in range(4):
            row = (((1, 2),) + (NOUGHT,) * many, 0)
            self.assertIs(shows_row([(1, 2), NOUGHT, NOUGHT, NOUGHT], row), True)
            self.assertIs(shows_row([NOUGHT] * many, ((NOUGHT,) * many, 0)), True)

    def test_of_no_numbers_each_row(self):
        for row in ROWS:
            self.assertIs(shows_row([], row), True)

    def test_another_row_does_not(self):
        for row in BOUND_ROWS:
            for other in BOUND_ROWS:
                told, others = plain_echo(row, 8), plain_echo(other, 8)
                self.assertIs(shows_row(told, other), told == others)

    def test_rows_unlike_at_the_last_number(self):
        row = (((1, 2), (-1, 3), (1, 5)), 0)
        told = plain_echo(row, 5)
        for many in range(6):
            other = (row[0][:2] + ((1, 6),), 0)
            self.assertIs(shows_row(told[:many], other), many < 3)
            self.assertIs(shows_row(told[:many], (row[0], 1)), many < 4)
            self.assertIs(shows_row(told[:many], (row[0][:2], -1)), many < 3)

    def test_what_is_found_shows_it(self):
        for echoes in ROW_LISTS:
            self.assertIs(shows_row(echoes, found_back(echoes)[1]), True)

    def test_of_none_no_row(self):
        for echoes, many in BEYOND:
            for row in BOUND_ROWS:
                self.assertIs(shows_row(echoes, row), False)
            self.assertIs(shows_row(echoes, found_back(echoes)[1]), False)
            self.assertIs(shows_row(echoes, found_back(echoes)), False)
            self.assertIs(shows_row(echoes[:many], found_back(echoes[:many])[1]), True)

    def test_wrong_things(self):
        for thing in WRONG_ROWS + WRONG_PAPERS:
            for echoes in ([], [NOUGHT], [(1, 2)], [(1, 1)], [(1, 2), (1, 4)]):
                self.assertIs(shows_row(echoes, thing), False, thing)

    def test_rows_with_one_part_swapped(self):
        right = 0
        for row in [((), 0), ((), 1), (((1, 2),), 1), ((NOUGHT, (-2, 3)), -1)]:
            for many in (0, 1, 3):
                echoes = plain_echo(row, many)
                for swap in SWAPS:
                    for thing in with_one_part_swapped(row, swap):
                        plain = plainly_shows_row(echoes, thing)
                        self.assertIs(shows_row(echoes, thing), plain, (echoes, thing))
                        right += plain
        self.assertGreater(right, 20)

    def test_very_many_panes(self):
        row = (((1, 2), (-1, 3)) * 2500, 1)
        self.assertIs(shows_row(echo(row, 4), row), True)
        self.assertIs(shows_row([(1, 2), (1, 4)], row), False)

    def test_numbers_as_a_tuple(self):
        row = (((1, 2), (1, 3)), 0)
        self.assertIs(shows_row(((1, 2), (1, 4)), row), True)
        self.assertIs(shows_row(((1, 2), (1, 5)), row), False)
        self.assertIs(shows_row((), row), True)

    def test_what_is_handed_in_stays(self):
        for thing in WRONG_ROWS + ROWS[:9]:
            echoes, kept = [(1, 2), (1, 4)], copy.deepcopy(thing)
            shows_row(echoes, thing)
            self.assertEqual(kinds(thing), kinds(kept))
            self.assertEqual(echoes, [(1, 2), (1, 4)])

    def test_by_names(self):
        self.assertIs(shows_row(thing=(((1, 2),), 0), echoes=[(1, 2)]), True)
        self.assertIs(shows_row(thing=[((1, 2),), 0], echoes=[(1, 2)]), False)


class ShowsNone(unittest.TestCase):
    def test_by_hand(self):
        self.assertIs(shows_none([(2, 1)], [(1, 1)]), True)
        self.assertIs(shows_none([(2, 1)], [(-1, 1)]), True)
        self.assertIs(shows_none([(2, 1)], [NOUGHT]), False)
        self.assertIs(shows_none([(1, 1)], [(1, 1)]), False)
        self.assertIs(shows_none([(1, 1), (1, 1)], [(1, 1)]), False)
        self.assertIs(shows_none([(1, 1), (1, 1)], [(1, 1), NOUGHT]), True)
        self.assertIs(shows_none([(1, 1), (1, 1)], [NOUGHT, (1, 1)]), False)
        # Of 1 and 1 are heard 1/2 and 5/4, so 29/16 of 2; of 1 and 1/2, 1/2 and 1, so just as much as is cried.
        self.assertIs(shows_none([(1, 2), (3, 4)], [(1, 1), (1, 1)]), False)
        self.assertIs(shows_none([(1, 2), (3, 4)], [(1, 1), (1, 2)]), False)
        self.assertIs(shows_none([(1, 2), (4, 5)], [(1, 1), (1, 2)]), True)

    def test_as_much_is_not_more(self):
        for wall in (1, -1):
            for cries in ([(1, 1)], [(3, 7), (-1, 2)], [(5, 1)] * 4):
                self.assertIs(shows_none([(wall, 1)] + [NOUGHT] * 5, cries), False)

    def test_what_is_found_shows_it(self):
        for echoes, many in BEYOND:
            cries = found_back(echoes)[1]
            self.assertIs(shows_none(echoes, cries), True)
            self.assertIs(shows_none(echoes[:many + 1], cries), True)
            self.assertIs(shows_none(echoes[:many], cries), False)
            self.assertIs(shows_none(echoes, tuple(cries)), False)
            self.assertIs(shows_none(echoes, found_back(echoes)), False)

    def test_more_cries_than_need_be(self):
        for more in range(5):
            self.assertIs(shows_none([(2, 1)] + [NOUGHT] * 4, [(1, 1)] + [NOUGHT] * more), True)
        self.assertIs(shows_none([(2, 1)] + [NOUGHT] * 4, [(1, 1)] + [NOUGHT] * 5), False)
        self.assertIs(shows_none([(2, 1), NOUGHT], [NOUGHT, (1, 1)]), True)

    def test_as_many_cries_as_numbers_no_more(self):
        self.assertIs(shows_none([(2, 1)], [(1, 1), NOUGHT]), False)
        self.assertIs(shows_none([], [(1, 1)]), False)
        self.assertIs(shows_none([], []), False)
        self.assertIs(shows_none([(2, 1)], []), False)

    def test_of_a_rows_none_does(self):
        papers = [[(1, 1)], [(1, 1), (1, 2)], [(0, 1), (1, 1), (-1, 1)], [(1, 1), (-1, 1), (1, 1), (-1, 1)]]
        for echoes in ROW_LISTS:
            for cries in papers:
                self.assertIs(shows_none(echoes, cries), False)

    def test_short_lists(self):
        papers = [[(1, 1)], [(1, 1), (1, 2)], [(1, 1), (-3, 4)], [(2, 1), NOUGHT, (1, 1)], [(1, 1), (1, 2), (1, 3), (1, 4)]]
        right = 0
        for echoes in SHORT[::3]:
            for cries in papers:
                plain = plainly_none(echoes, cries)
                self.assertIs(shows_none(echoes, cries), plain, (echoes, cries))
                right += plain
        self.assertGreater(right, 100)

    def test_great_tops_and_bottoms(self):
        great = 10 ** 60
        self.assertIs(shows_none([(great + 1, great)], [(1, great)]), True)
        self.assertIs(shows_none([(great - 1, great)], [(great, 1)]), False)
        self.assertIs(shows_none([(1, 1), (1, great)], [(great, 1), NOUGHT]), True)

    def test_wrong_things(self):
        for thing in WRONG_PAPERS + WRONG_ROWS:
            for echoes in ([], [(2, 1)], [(2, 1), (3, 1)], [(1, 2), (5, 1), (7, 1)]):
                self.assertIs(shows_none(echoes, thing), False, thing)

    def test_papers_with_one_part_swapped(self):
        right = 0
        for echoes, cries in [([(2, 1)], [(1, 1)]), ([(1, 1), (1, 1)], [(1, 1), NOUGHT]),
                              ([(1, 2), (4, 5), NOUGHT], [(1, 1), (1, 2)])]:
            for swap in SWAPS:
                for thing in with_one_part_swapped(cries, swap):
                    plain = plainly_shows_none(echoes, thing)
                    self.assertIs(shows_none(echoes, thing), plain, (echoes, thing))
                    right += plain
        self.assertGreater(right, 20)

    def test_numbers_as_a_tuple(self):
        self.assertIs(shows_none(((1, 1), (1, 1)), [(1, 1), NOUGHT]), True)
        self.assertIs(shows_none(((1, 1), (1, 1)), [(1, 1)]), False)
        self.assertIs(shows_none((), [(1, 1)]), False)

    def test_what_is_handed_in_stays(self):
        for thing in WRONG_PAPERS + [[(1, 1)], [(1, 1), (1, 2)]]:
            echoes, kept = [(2, 1), (1, 4)], copy.deepcopy(thing)
            shows_none(echoes, thing)
            self.assertEqual(kinds(thing), kinds(kept))
            self.assertEqual(echoes, [(2, 1), (1, 4)])

    def test_by_names(self):
        self.assertIs(shows_none(thing=[(1, 1)], echoes=[(2, 1)]), True)
        self.assertIs(shows_none(thing=((1, 1),), echoes=[(2, 1)]), False)


class JustOne(unittest.TestCase):
    def test_a_row_or_none_is_shown(self):
        for echoes in SHORT[::7]:
            word, told = found_back(echoes)
            self.assertIs(shows_row(echoes, told), word == "row")
            self.assertIs(shows_none(echoes, told), word == "none")


if __name__ == "__main__":
    unittest.main()

import copy
import unittest

from echopanes.echoes import echo
from echopanes.errors import NoRow
from echopanes.finding import beginning, found_back, next_of
from echopanes.rows import is_row, trimmed
from plain_waves import plain_echo, plain_squares, plainly_none, plain_heard_by
from sample_echoes import BEYOND, NOUGHT, ROW_LISTS, SHORT, plain_beginning, stretched
from sample_rows import ROWS, as_fraction, as_pair, kinds, plainly_fraction

BOUND_ROWS = [row for row in ROWS if len(row[0]) <= 13]
TRIMMED_ROWS = [trimmed(row) for row in BOUND_ROWS]


def plain_half(row):
    half = as_fraction((int(row[1] == 0), 1))
    for pane in row[0]:
        half *= 1 - as_fraction(pane) ** 2
    return as_pair(half)


def fits(row, many):
    """Whether the row has at most so many panes, its wall counted as one."""
    return len(row[0]) + abs(row[1]) <= many


class FoundRows(unittest.TestCase):
    def test_by_hand(self):
        self.assertEqual(kinds(found_back([])), kinds(("row", ((), 0))))
        self.assertEqual(found_back([(1, 2)]), ("row", (((1, 2),), 0)))
        self.assertEqual(found_back([(1, 2), (1, 4)]), ("row", (((1, 2), (1, 3)), 0)))
        self.assertEqual(found_back([(1, 2), (-3, 4), (-3, 8)]), ("row", (((1, 2),), -1)))
        self.assertEqual(found_back([(1, 1)]), ("row", ((), 1)))
        self.assertEqual(found_back([(-1, 1), NOUGHT, NOUGHT]), ("row", ((), -1)))

    def test_noughts_alone_tell_no_pane(self):
        for many in range(25):
            self.assertEqual(found_back([NOUGHT] * many), ("row", ((), 0)))

    def test_of_rows_echoes_as_many_numbers_as_panes_or_more(self):
        for row in TRIMMED_ROWS:
            many = len(row[0]) + abs(row[1])
            for more in (0, 1, 2, 11):
                self.assertEqual(kinds(found_back(plain_echo(row, many + more))), kinds(("row", row)))

    def test_of_fewer_numbers_the_first_panes(self):
        for row in TRIMMED_ROWS:
            for many in range(len(row[0]) + abs(row[1])):
                told = found_back(plain_echo(row, many))
                self.assertEqual(told, ("row", trimmed((row[0][:many], 0))))

    def test_the_last_panes_of_nought_are_not_told(self):
        row = (((1, 2), NOUGHT, (1, 3), NOUGHT), 0)
        self.assertEqual(found_back(echo(row, 4)), ("row", (row[0][:3], 0)))
        self.assertEqual(found_back(echo(row, 2)), ("row", (row[0][:1], 0)))

    def test_panes_of_nought_ahead_of_a_wall_are_told(self):
        row = (((1, 2), NOUGHT, NOUGHT), -1)
        self.assertEqual(found_back(echo(row, 4)), ("row", row))
        self.assertEqual(found_back(echo(row, 3)), ("row", (((1, 2),), 0)))

    def test_what_is_found_is_trimmed_and_has_the_numbers(self):
        for echoes in ROW_LISTS:
            word, row = found_back(echoes)
            self.assertEqual(word, "row")
            self.assertIs(is_row(row), True)
            self.assertEqual(trimmed(row), row)
            self.assertTrue(fits(row, len(echoes)))
            self.assertEqual(plain_echo(row, len(echoes)), echoes)

    def test_small_numbers_of_any_kind(self):
        for bottom in (40, 10 ** 30):
            echoes = [as_pair(as_fraction(((-1) ** k * (k + 3), (k + 4) * bottom))) for k in range(12)]
            word, row = found_back(echoes)
            self.assertEqual((word, len(row[0]), row[1]), ("row", 12, 0))
            self.assertEqual(plain_echo(row, 12), echoes)

    def test_twenty_four_numbers(self):
        echoes = [((-1) ** k, 61 + k) for k in range(24)]
        word, row = found_back(echoes)
        self.assertEqual((word, len(row[0])), ("row", 24))
        self.assertEqual(echo(row, 24), echoes)


class FoundNone(unittest.TestCase):
    def check_paper(self, echoes, many):
        told = found_back(echoes)
        self.assertIs(type(told), tuple)
        word, cries = told
        self.assertEqual(word, "none")
        self.assertIs(type(cries), list)
        self.assertTrue(all(plainly_fraction(cry) for cry in cries))
        self.assertEqual(len(cries), many + 1)
        self.assertGreater(plain_squares(plain_heard_by(echoes, cries)), plain_squares(cries))

    def test_by_hand(self):
        self.assertEqual(found_back([(2, 1)])[0], "none")
        self.check_paper([(1, 2), (3, 4), (-3, 8), (1, 1)], 3)

    def test_beyond(self):
        for echoes, many in BEYOND:
            self.check_paper(echoes, many)

    def test_behind_rows_a_number_beyond(self):
        for row in BOUND_ROWS:
            for many in (0, 1, 4, 12, 23):
                echoes = plain_echo(row, many)
                middle, half = next_of(echoes)
                if half == NOUGHT:
                    numbers = [as_pair(as_fraction(middle) + as_fraction(more))
                               for more in [(1, 1), (-1, 10 ** 30), (10 ** 30, 1)]]
                else:
                    numbers = [stretched(middle, half, top, bottom) for top, bottom in
                               [(10 ** 20 + 1, 10 ** 20), (-(10 ** 20) - 1, 10 ** 20), (2, 1), (-(10 ** 20), 1)]]
                for number in numbers:
                    self.check_paper(echoes + [number], many)
                self.check_paper(echoes + numbers, many)

    def test_another_number_behind_a_wall(self):
        for panes in [(), ((1, 2),), (NOUGHT, (-1, 3)), ((59, 60), (-59, 60), (1, 7))]:
            for wall in (1, -1):
                for more in range(1, 7):
                    echoes = plain_echo((panes, wall), len(panes) + 1 + more)
                    for number in [(1, 60), (-10 ** 9, 1)]:
                        wrong = as_pair(as_fraction(echoes[-1]) + as_fraction(number))
                        self.check_paper(echoes[:-1] + [wrong], len(echoes) - 1)
                        self.check_paper(echoes[:-1] + [wrong, NOUGHT, (1, 2)], len(echoes) - 1)

    def test_twenty_four_numbers_the_last_one_beyond(self):
        echoes = [((-1) ** k, 61 + k) for k in range(23)]
        middle, half = next_of(echoes)
        self.check_paper(echoes + [stretched(middle, half, 11, 10)], 23)
        self.check_paper(echoes + [stretched(middle, half, -11, 10)], 23)


class JustOne(unittest.TestCase):
    """Each list, by what is reckoned without any pane, is a row's or none's, and no fewer cries would do."""

    def test_short_lists(self):
        words = {"row": 0, "none": 0}
        for echoes in SHORT:
            many = plain_beginning(echoes)
            self.assertEqual(kinds(beginning(echoes)), kinds(many), echoes)
            word, told = found_back(echoes)
            words[word] += 1
            if many == len(echoes):
                self.assertEqual(word, "row", echoes)
                self.assertEqual(plain_echo(told, len(echoes)), echoes)
                self.assertTrue(fits(told, len(echoes)))
            else:
                self.assertEqual((word, len(told)), ("none", many + 1), echoes)
                self.assertTrue(plainly_none(echoes, told))
        self.assertGreater(min(words.values()), 200)

    def test_longer_lists(self):
        for echoes in ROW_LISTS:
            if len(echoes) in (5, 12):
                self.assertEqual(plain_beginning(echoes), len(echoes))
        for echoes, many in BEYOND:
            self.assertEqual(plain_beginning(echoes), many)


class Beginning(unittest.TestCase):
    def test_of_rows_all(self):
        for echoes in ROW_LISTS:
            self.assertEqual(kinds(beginning(echoes)), kinds(len(echoes)))

    def test_of_none(self):
        for echoes, many in BEYOND:
            self.assertEqual(kinds(beginning(echoes)), kinds(many))

    def test_what_comes_behind_does_not_matter(self):
        for echoes, many in BEYOND:
            for more in [[], [NOUGHT], [(1, 2), (7, 1)], [NOUGHT] * 12]:
                self.assertEqual(beginning(echoes + more), many)

    def test_first_ones_of_a_rows_are_a_rows(self):
        for echoes, many in BEYOND:
            for first in range(len(echoes) + 1):
                self.assertEqual(beginning(echoes[:first]), min(first, many))


class NextOf(unittest.TestCase):
    def test_by_hand(self):
        self.assertEqual(kinds(next_of([])), kinds((NOUGHT, (1, 1))))
        self.assertEqual(next_of([NOUGHT]), (NOUGHT, (1, 1)))
        self.assertEqual(next_of([(1, 2)]), (NOUGHT, (3, 4)))
        self.assertEqual(next_of([(1, 2), (1, 4)]), ((-1, 24), (2, 3)))
        self.assertEqual(next_of([(1, 1)]), (NOUGHT, NOUGHT))
        self.assertEqual(next_of([(1, 2), (-3, 4)]), ((-3, 8), NOUGHT))

    def test_half_is_told_by_the_panes(self):
        for row in BOUND_ROWS:
            for many in range(len(row[0]) + 4):
                seen = (row[0][:many], row[1] if many > len(row[0]) else 0)
                middle, half = next_of(plain_echo(row, many))
                self.assertEqual(kinds(half), kinds(plain_half(seen)))
                self.assertEqual(kinds(middle), kinds(plain_echo(seen, many + 1)[-1]))

    def test_the_width_falls_with_each_pane_that_is_not_nought(self):
        for row in BOUND_ROWS:
            told = plain_echo(row, len(row[0]) + 3)
            halves = [as_fraction(next_of(told[:many])[1]) for many in range(len(told) + 1)]
            for at, pane in enumerate(row[0]):
                if pane == NOUGHT:
                    self.assertEqual(halves[at + 1], halves[at])
                else:
                    self.assertLess(halves[at + 1], halves[at])

    def test_within_at_both_ends_and_beyond(self):
        within = [(0, 1), (1, 2), (-59, 60), (10 ** 30 - 1, 10 ** 30), (-(10 ** 30) + 1, 10 ** 30)]
        ends = [(1, 1), (-1, 1)]
        beyond = [(10 ** 30 + 1, 10 ** 30), (-(10 ** 30) - 1, 10 ** 30), (2, 1), (-(10 ** 30), 1)]
        for row in BOUND_ROWS:
            for many in (0, 1, 2, 7, 12):
                echoes = plain_echo(row, many)
                middle, half = next_of(echoes)
                if half == NOUGHT:
                    self.assertEqual(beginning(echoes + [middle]), many + 1)
                    continue
                panes = row[0][:many] + (NOUGHT,) * (many - len(row[0]))
                for at in within:
                    number = stretched(middle, half, at[0], at[1])
                    self.assertEqual(found_back(echoes + [number]), ("row", trimmed((panes + (at,), 0))))
                for at in ends:
                    number = stretched(middle, half, at[0], at[1])
                    self.assertEqual(found_back(echoes + [number]), ("row", (panes, at[0])))
                for at in beyond:
                    number = stretched(middle, half, at[0], at[1])
                    self.assertEqual(beginning(echoes + [number]), many)
                    with self.assertRaises(NoRow):
                        next_of(echoes + [number])

    def test_short_lists(self):
        for echoes in SHORT:
            if len(echoes) < 4 and plain_beginning(echoes) == len(echoes):
                middle, half = next_of(echoes)
                for at in [(0, 1), (1, 1), (-1, 1), (101, 100), (-101, 100)]:
                    number = stretched(middle, half, at[0], at[1])
                    right = half == NOUGHT or abs(at[0]) <= at[1]
                    self.assertEqual(plain_beginning(echoes + [number]) == len(echoes) + 1, right)
                if half == NOUGHT:
                    other = stretched(middle, (1, 1), 1, 1000)
                    self.assertEqual(plain_beginning(echoes + [other]), len(echoes))

    def test_no_row(self):
        for echoes, many in BEYOND:
            with self.assertRaises(NoRow):
                next_of(echoes)
            with self.assertRaises(NoRow):
                next_of(echoes[:many + 1])
            next_of(echoes[:many])

    def test_great_tops_and_bottoms(self):
        great = 10 ** 60
        echoes = [(great - 1, great), (1, great ** 2), (-1, great ** 3)]
        self.assertEqual(beginning(echoes), 3)
        middle, half = next_of(echoes)
        self.assertEqual(found_back(echoes + [stretched(middle, half, 1, 1)])[1][1], 1)
        self.assertEqual(beginning(echoes + [stretched(middle, half, great + 1, great)]), 3)
        self.assertEqual(beginning([(great - 1, great), (3, great)]), 1)


class HandedIn(unittest.TestCase):
    LISTS = [[], [(1, 2), (1, 4)], [(1, 2), (-3, 4), (-3, 8)], [(1, 2), (1, 1)], [(1, 1), NOUGHT, (1, 2)]]

    def test_as_a_tuple(self):
        for echoes in self.LISTS:
            self.assertEqual(kinds(found_back(tuple(echoes))), kinds(found_back(echoes)))
            self.assertEqual(beginning(tuple(echoes)), beginning(echoes))
        self.assertEqual(kinds(next_of(((1, 2), (1, 4)))), kinds(next_of([(1, 2), (1, 4)])))
        self.assertEqual(next_of(()), next_of([]))
        with self.assertRaises(NoRow):
            next_of(((2, 1),))

    def test_it_stays_as_it_is(self):
        for echoes in self.LISTS:
            kept = copy.deepcopy(echoes)
            found_back(echoes)
            beginning(echoes)
            try:
                next_of(echoes)
            except NoRow:
                pass
            self.assertEqual(kinds(echoes), kinds(kept))

    def test_told_cries_are_the_askers_own(self):
        for echoes, many in BEYOND:
            word, cries = found_back(echoes)
            kept = list(cries)
            cries[0] = None
            cries.append(None)
            self.assertEqual(found_back(echoes), ("none", kept))

    def test_by_names(self):
        self.assertEqual(found_back(echoes=[(1, 2)]), ("row", (((1, 2),), 0)))
        self.assertEqual(beginning(echoes=[(1, 2)]), 1)
        self.assertEqual(next_of(echoes=[(1, 2)]), (NOUGHT, (3, 4)))


if __name__ == "__main__":
    unittest.main()

import copy
import unittest
from fractions import Fraction

from echopanes.behind import echo_behind, taken
from echopanes.echoes import echo
from echopanes.errors import NoRow, Walled
from echopanes.finding import beginning, found_back, next_of
from echopanes.rows import joined
from sample_echoes import BEYOND
from sample_rows import FREE_ROWS, ROWS, WALLED_ROWS, as_fraction, as_pair, kinds

NOUGHT = (0, 1)
BOUND_FREE = [row for row in FREE_ROWS if len(row[0]) <= 13]
SMALL_FREE = [row for row in FREE_ROWS if len(row[0]) <= 5]
SMALL_ROWS = [row for row in ROWS if len(row[0]) <= 5]

# Numbers that are a row's, and such as are none's.
NUMBERS = [
    [], [NOUGHT], [(1, 2)], [(1, 1)], [(-1, 1), NOUGHT], [(1, 2), (-1, 3), NOUGHT, (2, 7)], [NOUGHT] * 5,
    [(10 ** 30, 7), (1, 10 ** 30)], [(60, 59)] * 6,
] + [echoes for echoes, many in BEYOND]


def plain_behind(row, echoes):
    """What is heard, one pane after the other, by E = (r + x E') / (1 + r x E')."""
    told = [as_fraction(number) for number in echoes]
    for pane in reversed(row[0]):
        r, later = as_fraction(pane), [Fraction(0)] + told
        top = [r * (at == 0) + number for at, number in enumerate(later)]
        bottom = [(at == 0) + r * number for at, number in enumerate(later)]
        told = []
        for at in range(len(later)):
            told.append(top[at] - sum(told[at - k] * bottom[k] for k in range(1, at + 1)))
    return [as_pair(number) for number in told]


class EchoBehind(unittest.TestCase):
    def test_by_hand(self):
        self.assertEqual(kinds(echo_behind((((1, 2),), 0), [(1, 3), NOUGHT])), kinds([(1, 2), (1, 4), (-1, 24)]))
        self.assertEqual(echo_behind((((1, 2),), 0), [(-1, 1)]), [(1, 2), (-3, 4)])
        self.assertEqual(echo_behind(((NOUGHT, NOUGHT), 0), [(5, 1), (7, 1)]), [NOUGHT, NOUGHT, (5, 1), (7, 1)])

    def test_beside_the_echo_of_both_joined(self):
        for row in BOUND_FREE:
            for other in SMALL_ROWS:
                for many in (0, 1, 4, 11):
                    told = echo_behind(row, echo(other, many))
                    self.assertEqual(kinds(told), kinds(echo(joined(row, other), len(row[0]) + many)))

    def test_twelve_panes_and_twenty_four_numbers(self):
        for row in [row for row in BOUND_FREE if len(row[0]) == 12]:
            for other in [row, (row[0], 1), (row[0][::-1], -1)]:
                told = echo_behind(row, echo(other, 24))
                self.assertEqual(told, echo(joined(row, other), 36))

    def test_of_any_numbers(self):
        for row in SMALL_FREE + [(tuple((1, k) for k in range(2, 14)), 0)]:
            for echoes in NUMBERS:
                told = echo_behind(row, echoes)
                self.assertEqual(kinds(told), kinds(plain_behind(row, echoes)), (row, echoes))
                self.assertEqual(len(told), len(row[0]) + len(echoes))

    def test_of_no_numbers_it_is_the_rows_own(self):
        for row in BOUND_FREE:
            self.assertEqual(echo_behind(row, []), echo(row, len(row[0])))

    def test_of_no_pane_it_is_the_numbers(self):
        for echoes in NUMBERS:
            told = echo_behind(((), 0), echoes)
            self.assertEqual(kinds(told), kinds(echoes))
            self.assertIsNot(told, echoes)

    def test_one_row_behind_the_other(self):
        for one in SMALL_FREE:
            for other in SMALL_FREE:
                for echoes in NUMBERS[:8]:
                    told = echo_behind(joined(one, other), echoes)
                    self.assertEqual(told, echo_behind(one, echo_behind(other, echoes)))

    def test_behind_a_row_as_many_are_a_rows_as_by_themselves(self):
        for row in SMALL_FREE:
            for echoes in NUMBERS:
                told = echo_behind(row, echoes)
                self.assertEqual(beginning(told), len(row[0]) + beginning(echoes))
                self.assertEqual(found_back(told)[0], found_back(echoes)[0])

    def test_behind_a_row_the_stretch_is_narrower_by_its_panes(self):
        for row in SMALL_FREE:
            share = Fraction(1)
            for pane in row[0]:
                share *= 1 - as_fraction(pane) ** 2
            for other in SMALL_ROWS:
                echoes = echo(other, 4)
                half = next_of(echo_behind(row, echoes))[1]
                self.assertEqual(as_fraction(half), share * as_fraction(next_of(echoes)[1]))

    def test_walled(self):
        for row in WALLED_ROWS:
            for echoes in NUMBERS[:4]:
                with self.assertRaises(Walled):
                    echo_behind(row, echoes)

    def test_numbers_as_a_tuple(self):
        for row in SMALL_FREE:
            for echoes in NUMBERS:
                self.assertEqual(kinds(echo_behind(row, tuple(echoes))), kinds(echo_behind(row, echoes)))

    def test_what_is_handed_in_stays(self):
        for row in SMALL_FREE:
            for echoes in NUMBERS:
                kept = copy.deepcopy(echoes)
                told = echo_behind(row, echoes)
                again = list(told)
                told.append(None)
                self.assertEqual(kinds(echoes), kinds(kept))
                self.assertEqual(echo_behind(row, echoes), again)

    def test_by_names(self):
        self.assertEqual(echo_behind(echoes=[(1, 3)], row=(((1, 2),), 0)), [(1, 2), (1, 4)])
        with self.assertRaises(Walled):
            echo_behind(echoes=[(1, 3)], row=(((1, 2),), 1))


class Taken(unittest.TestCase):
    def test_by_hand(self):
        row = (((1, 2),), 0)
        self.assertEqual(kinds(taken(row, [(1, 2), (1, 4), (-1, 24)])), kinds([(1, 3), NOUGHT]))
        self.assertEqual(taken(row, [(1, 2), (-3, 4)]), [(-1, 1)])
        self.assertEqual(taken(row, [(1, 2), (3, 1)]), [(4, 1)])
        self.assertEqual(kinds(taken(row, [(1, 2)])), kinds([]))

    def test_of_what_echo_behind_tells(self):
        for row in SMALL_FREE + [(tuple((1, k) for k in range(2, 14)), 0)]:
            for echoes in NUMBERS:
                self.assertEqual(kinds(taken(row, echo_behind(row, echoes))), kinds(echoes))

    def test_twelve_panes_and_twenty_four_numbers(self):
        for row in [row for row in BOUND_FREE if len(row[0]) == 12]:
            for other in [row, (row[0], 1), (row[0][::-1], -1)]:
                self.assertEqual(taken(row, echo(joined(row, other), 24)), echo(other, 12))

    def test_told_back_it_is_what_was_heard(self):
        for row in SMALL_FREE:
            for other in SMALL_ROWS:
                heard = echo(joined(row, other), len(row[0]) + 5)
                self.assertEqual(echo_behind(row, taken(row, heard)), heard)

    def test_of_as_many_or_fewer_there_is_nothing_left(self):
        for row in BOUND_FREE:
            heard = echo(row, len(row[0]))
            for many in range(len(row[0]) + 1):
                self.assertEqual(taken(row, heard[:many]), [])

    def test_of_no_pane_all_is_left(self):
        for echoes in NUMBERS:
            told = taken(((), 0), echoes)
            self.assertEqual(kinds(told), kinds(echoes))
            self.assertIsNot(told, echoes)

    def test_what_is_left_may_be_nones(self):
        row = (((1, 2), (-1, 3)), 0)
        for echoes, many in BEYOND:
            self.assertEqual(taken(row, echo_behind(row, echoes)), echoes)

    def test_no_row(self):
        for row in BOUND_FREE:
            heard = echo(row, len(row[0])) + [(1, 7), (2, 7)]
            for at in range(len(row[0])):
                for other in [(3, 7), (1, 1), (10 ** 30, 1)]:
                    wrong = heard[:at] + [other] + heard[at + 1:]
                    for many in (at + 1, len(row[0]), len(wrong)):
                        with self.assertRaises(NoRow):
                            taken(row, wrong[:many])

    def test_only_as_many_as_panes_must_be_the_rows(self):
        row = (((1, 2), (-1, 3), NOUGHT), 0)
        heard = echo(row, 3)
        for other in [(5, 1), (-1, 1), NOUGHT]:
            self.assertEqual(len(taken(row, heard + [other])), 1)
        self.assertEqual(taken(row, heard[:2]), [])
        with self.assertRaises(NoRow):
            taken(row, heard[:2] + [(5, 1)])

    def test_walled(self):
        for row in WALLED_ROWS:
            for echoes in (echo(row, 5), [], [(3, 1)], [(3, 7), (5, 1)]):
                with self.assertRaises(Walled):
                    taken(row, echoes)

    def test_walled_ahead_of_no_row(self):
        with self.assertRaises(Walled):
            taken((((1, 2),), 1), [(1, 3), (1, 4)])
        with self.assertRaises(NoRow):
            taken((((1, 2),), 0), [(1, 3), (1, 4)])

    def test_numbers_as_a_tuple(self):
        for row in SMALL_FREE:
            for echoes in NUMBERS[:6]:
                heard = echo_behind(row, echoes)
                self.assertEqual(kinds(taken(row, tuple(heard))), kinds(echoes))
        with self.assertRaises(NoRow):
            taken((((1, 2),), 0), ((1, 3),))

    def test_what_is_handed_in_stays(self):
        row, heard = (((1, 2),), 0), [(1, 2), (1, 4), (-1, 24)]
        told = taken(row, heard)
        told.append(None)
        self.assertEqual(heard, [(1, 2), (1, 4), (-1, 24)])
        self.assertEqual(taken(row, heard), [(1, 3), NOUGHT])

    def test_by_names(self):
        self.assertEqual(taken(echoes=[(1, 2), (1, 4)], row=(((1, 2),), 0)), [(1, 3)])
        with self.assertRaises(NoRow):
            taken(echoes=[(1, 3)], row=(((1, 2),), 0))


if __name__ == "__main__":
    unittest.main()

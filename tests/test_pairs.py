import copy
import itertools
import unittest

from echopanes.echoes import echo
from echopanes.errors import NoRow
from echopanes.pairs import echo_in, is_pair, pair_of, row_in, squares_in
from echopanes.rows import trimmed
from plain_pairs import (
    as_fractions, as_pairs, plain_echo_in, plain_pair_of, plain_row_in, plain_squares_in, plainly_pair, times,
)
from sample_rows import FREE_ROWS, ROWS, WALLED_ROWS, as_fraction, as_pair, kinds
from wrong_things import SWAPS, WRONG_ROWS, with_one_part_swapped

NOUGHT, ONE = (0, 1), (1, 1)
SMALL_ROWS = [row for row in ROWS if len(row[0]) <= 5]
BOUND_ROWS = [row for row in ROWS if len(row[0]) <= 13]

# Polynomials that are mostly no row's.
DRAWN = [
    [], [ONE], [(-1, 1)], [(2, 1)], [(1, 2)], [NOUGHT, ONE], [NOUGHT, NOUGHT, (-1, 1)], [ONE, (1, 2)], [ONE, ONE],
    [(1, 2), (1, 3)], [ONE, (1, 6)], [ONE, NOUGHT, (1, 6)], [(1, 3), (-2, 7), (5, 4)], [ONE, (-1, 2), (3, 5), (1, 60)],
    [(10 ** 30, 7), (1, 10 ** 30)], [(1, 60)] * 13, [ONE] + [(-1, k) for k in range(2, 14)],
]
WITH_A_FIRST = [numbers for numbers in DRAWN if numbers and numbers[0] != NOUGHT]

WRONG_PAIRS = [
    # not a pair of lists
    None, True, False, 0, 1, "", "pair", "([], [(1, 1)])", (), [], ([],), ([], [ONE], []), [[], [ONE]], ((), [ONE]),
    ([], (ONE,)), ((), (ONE,)), (None, [ONE]), ([], None), ("", [ONE]), ([], "1"), (0, 1), ([], 1), ([], True),
    # noughts behind the last number
    ([NOUGHT], [ONE]), ([], [ONE, NOUGHT]), ([(1, 2), NOUGHT], [ONE]), ([(1, 2)], [ONE, NOUGHT, NOUGHT]),
    # numbers that are no FRACTIONs
    ([], [1]), ([1], [ONE]), ([(2, 4)], [ONE]), ([(1, 2)], [(2, 2)]), ([(1, -2)], [ONE]), ([(-1, -2)], [ONE]),
    ([(1, 0)], [ONE]), ([(0, 0)], [ONE]), ([(True, 2)], [ONE]), ([(1, 2)], [(True, 1)]), ([(1, 2)], [(1, True)]),
    ([True], [ONE]), ([], [True]), ([None], [ONE]), ([], [None]), (["1"], [ONE]), (["12"], [ONE]), ([[1, 2]], [ONE]),
    ([(1, 2, 1)], [ONE]), ([(1,)], [ONE]), ([((1, 2),)], [ONE]), ([(1, "2")], [ONE]), ([(None, 2)], [ONE]),
    ([[(1, 2)]], [ONE]), ([()], [ONE]),
    # B's first number is not 1, or there is none
    ([], []), ([], [NOUGHT, ONE]), ([], [(2, 1)]), ([], [(-1, 1)]), ([(1, 2)], [(1, 2)]), ([ONE], [(-1, 1)]),
    ([ONE], [(2, 1)]), ([(1, 2)], []), ([ONE], []),
    # beyond 1, or too much of B
    ([(2, 1)], [ONE]), ([(-3, 2)], [ONE]), ([(10 ** 40 + 1, 10 ** 40)], [ONE]), ([], [ONE, (1, 2)]),
    ([ONE], [ONE, (1, 2)]), ([ONE, (1, 2)], [ONE]), ([(1, 2), (1, 3)], [ONE]), ([(1, 2)], [ONE, (1, 3)]),
    ([NOUGHT, (1, 2)], [ONE, (1, 3)]), ([NOUGHT, (2, 1)], [ONE]), ([ONE, ONE], [ONE, ONE]),
    # six deep
    ([[[[[1]]]]], [ONE]), ((((((1,),),),),), [ONE]), [[[[[[1]]]]]],
]


def stretched_pairs(row):
    """Pairs made from the row's, and mostly none of any row."""
    heard, cries = plain_pair_of(row)
    yield (cries, heard)
    for factor in [[(2, 1)], [(-1, 1)], [(1, 3)], [ONE, (1, 2)], [NOUGHT, ONE], [ONE, NOUGHT, (-3, 7)], [(2, 3), ONE]]:
        yield tuple(as_pairs(times(as_fractions(part), as_fractions(factor))) for part in (heard, cries))
        yield (heard, as_pairs(times(as_fractions(cries), as_fractions(factor))))
        yield (as_pairs(times(as_fractions(heard), as_fractions(factor))), cries)
    for part in (0, 1):
        for at in range(len((heard, cries)[part]) + 1):
            for other in [NOUGHT, ONE, (-1, 1), (1, 7), (7, 2)]:
                changed = [list(heard), list(cries)]
                changed[part][at:at + 1] = [other]
                if changed[part][-1] != NOUGHT:
                    yield tuple(changed)


def told_row(pair):
    try:
        return row_in(pair)
    except NoRow:
        return None


class PairOf(unittest.TestCase):
    def test_by_hand(self):
        self.assertEqual(kinds(pair_of(((), 0))), kinds(([], [ONE])))
        self.assertEqual(kinds(pair_of(((), 1))), kinds(([ONE], [ONE])))
        self.assertEqual(kinds(pair_of(((), -1))), kinds(([(-1, 1)], [ONE])))
        self.assertEqual(pair_of((((1, 2),), 0)), ([(1, 2)], [ONE]))
        self.assertEqual(pair_of((((1, 2), (1, 3)), 0)), ([(1, 2), (1, 3)], [ONE, (1, 6)]))
        self.assertEqual(pair_of((((1, 2),), -1)), ([(1, 2), (-1, 1)], [ONE, (-1, 2)]))
        self.assertEqual(pair_of(((NOUGHT, (1, 3)), 0)), ([NOUGHT, (1, 3)], [ONE]))

    def test_as_told(self):
        for row in BOUND_ROWS:
            self.assertEqual(kinds(pair_of(row)), kinds(plain_pair_of(row)), row)

    def test_more_panes_than_twelve(self):
        for row in ROWS:
            self.assertEqual(pair_of(row), plain_pair_of(row))

    def test_the_same_of_trimmed_ones(self):
        for row in FREE_ROWS:
            for more in (0, 1, 3):
                longer = (row[0] + (NOUGHT,) * more, 0)
                self.assertEqual(pair_of(longer), pair_of(trimmed(row)))

    def test_noughts_ahead_of_a_wall_count(self):
        for wall in (1, -1):
            for many in range(5):
                pair = ([NOUGHT] * many + [(wall, 1)], [ONE])
                self.assertEqual(pair_of(((NOUGHT,) * many, wall)), pair)

    def test_its_echo(self):
        for row in BOUND_ROWS:
            for many in (0, 1, 13, 24):
                self.assertEqual(kinds(echo_in(pair_of(row), many)), kinds(echo(row, many)))

    def test_unlike_trimmed_rows_have_unlike_pairs(self):
        rows = list({trimmed(row) for row in SMALL_ROWS})
        for one, other in itertools.combinations(rows, 2):
            self.assertNotEqual(pair_of(one), pair_of(other))

    def test_each_told_list_is_the_askers_own(self):
        for row in SMALL_ROWS:
            heard, cries = told = pair_of(row)
            kept = copy.deepcopy(told)
            self.assertIsNot(heard, cries)
            heard.append(None)
            cries.clear()
            self.assertEqual(pair_of(row), kept)

    def test_by_names(self):
        self.assertEqual(pair_of(row=(((1, 2),), 0)), ([(1, 2)], [ONE]))


class RowIn(unittest.TestCase):
    def test_by_hand(self):
        self.assertEqual(kinds(row_in(([], [ONE]))), kinds(((), 0)))
        self.assertEqual(kinds(row_in(([(-1, 1)], [ONE]))), kinds(((), -1)))
        self.assertEqual(kinds(row_in(([(1, 2), (1, 3)], [ONE, (1, 6)]))), kinds((((1, 2), (1, 3)), 0)))
        self.assertEqual(row_in(([(1, 2), (-1, 1)], [ONE, (-1, 2)])), (((1, 2),), -1))

    def test_of_a_rows_pair_it_is_the_trimmed_row(self):
        for row in BOUND_ROWS:
            self.assertEqual(kinds(row_in(pair_of(row))), kinds(trimmed(row)))

    def test_of_all_else_there_is_none(self):
        found = refused = 0
        for row in SMALL_ROWS:
            for pair in stretched_pairs(row):
                plain = plain_row_in(pair)
                self.assertEqual(told_row(pair), plain, pair)
                found += plain is not None
                refused += plain is None
        self.assertGreater(found, 20)
        self.assertGreater(refused, 500)

    def test_of_many_panes(self):
        for row in BOUND_ROWS:
            if len(row[0]) == 12:
                for pair in itertools.islice(stretched_pairs(row), 0, None, 4):
                    self.assertEqual(told_row(pair), plain_row_in(pair))

    def test_of_drawn_polynomials(self):
        found = 0
        for pair in itertools.product(DRAWN, DRAWN):
            plain = plain_row_in(pair)
            self.assertEqual(told_row(pair), plain, pair)
            found += plain is not None
        self.assertGreater(found, 5)

    def test_no_row(self):
        for pair in [([], []), ([], [(2, 1)]), ([ONE, (1, 2)], [ONE, (1, 2)]), ([(2, 1)], [ONE]), ([(1, 2)], []),
                     ([], [NOUGHT, ONE]), ([NOUGHT, (1, 2)], [NOUGHT, ONE]), ([(1, 2)], [(-1, 1)])]:
            with self.assertRaises(NoRow):
                row_in(pair)

    def test_polynomials_as_tuples(self):
        for row in SMALL_ROWS:
            heard, cries = pair_of(row)
            for pair in [(tuple(heard), tuple(cries)), (tuple(heard), cries), (heard, tuple(cries))]:
                self.assertEqual(kinds(row_in(pair)), kinds(trimmed(row)))
        with self.assertRaises(NoRow):
            row_in(((), ((2, 1),)))

    def test_great_tops_and_bottoms(self):
        great = 10 ** 200
        row = (((great - 1, great), (1, great), (-1, 2)), 0)
        self.assertEqual(row_in(pair_of(row)), row)
        with self.assertRaises(NoRow):
            row_in(([(great + 1, great)], [ONE]))
        with self.assertRaises(NoRow):
            row_in(([(1, 2), (1, 3)], [ONE, (great + 1, 6 * great)]))

    def test_what_is_handed_in_stays(self):
        for pair in [([(1, 2), (1, 3)], [ONE, (1, 6)]), ([(1, 2), (1, 3)], [(2, 1)]), ([], [])]:
            kept = copy.deepcopy(pair)
            told_row(pair)
            self.assertEqual(kinds(pair), kinds(kept))

    def test_by_names(self):
        self.assertEqual(row_in(pair=([], [ONE])), ((), 0))
        with self.assertRaises(NoRow):
            row_in(pair=([], [(2, 1)]))


class IsPair(unittest.TestCase):
    def test_of_a_rows_pair(self):
        for row in ROWS[::2] + SMALL_ROWS:
            self.assertIs(is_pair(plain_pair_of(row)), True, row)

    def test_wrong_things(self):
        for thing in WRONG_PAIRS + WRONG_ROWS:
            self.assertIs(is_pair(thing), False, thing)

    def test_lists_for_tuples(self):
        for row in SMALL_ROWS:
            heard, cries = pair_of(row)
            for thing in [[heard, cries], (tuple(heard), cries), (heard, tuple(cries)), (tuple(heard), tuple(cries)),
                          (heard, cries, []), (heard,), (heard, [list(number) for number in cries])]:
                self.assertIs(is_pair(thing), False, thing)

    def test_noughts_behind_the_last(self):
        for row in SMALL_ROWS:
            heard, cries = pair_of(row)
            self.assertIs(is_pair((heard + [NOUGHT], cries)), False)
            self.assertIs(is_pair((heard, cries + [NOUGHT])), False)

    def test_pairs_made_otherwise(self):
        right = 0
        for row in SMALL_ROWS:
            for pair in stretched_pairs(row):
                plain = plainly_pair(pair)
                self.assertIs(is_pair(pair), plain, pair)
                right += plain
        self.assertGreater(right, 20)

    def test_drawn_polynomials(self):
        for pair in itertools.product(DRAWN, DRAWN):
            self.assertIs(is_pair(pair), plainly_pair(pair), pair)

    def test_pairs_with_one_part_swapped(self):
        right = 0
        for row in [((), 0), ((), 1), (((1, 2),), 0), (((1, 2), (1, 3)), 0), ((NOUGHT, (1, 2)), -1)]:
            for swap in SWAPS:
                for thing in with_one_part_swapped(plain_pair_of(row), swap):
                    plain = plainly_pair(thing)
                    self.assertIs(is_pair(thing), plain, thing)
                    right += plain
        self.assertGreater(right, 10)

    def test_what_is_handed_in_stays(self):
        for thing in WRONG_PAIRS + [pair_of(row) for row in SMALL_ROWS]:
            kept = copy.deepcopy(thing)
            is_pair(thing)
            self.assertEqual(kinds(thing), kinds(kept))

    def test_by_names(self):
        self.assertIs(is_pair(thing=([], [ONE])), True)
        self.assertIs(is_pair(thing=[[], [ONE]]), False)


class EchoIn(unittest.TestCase):
    def test_by_hand(self):
        self.assertEqual(kinds(echo_in(([ONE], [ONE, (-1, 2)]), 4)), kinds([ONE, (1, 2), (1, 4), (1, 8)]))
        self.assertEqual(echo_in(([(3, 1)], [(-2, 1)]), 2), [(-3, 2), NOUGHT])
        self.assertEqual(echo_in(([], [(5, 1)]), 3), [NOUGHT] * 3)
        self.assertEqual(echo_in(([], [(5, 1)]), 0), [])

    def test_of_any_two(self):
        for pair in itertools.product(DRAWN, WITH_A_FIRST):
            for many in (0, 1, 2, 7):
                self.assertEqual(kinds(echo_in(pair, many)), kinds(plain_echo_in(pair, many)), pair)

    def test_forty_numbers(self):
        for pair in [(DRAWN[-1], DRAWN[-2]), (DRAWN[-2], DRAWN[-1]), (DRAWN[-4], DRAWN[-3])]:
            self.assertEqual(echo_in(pair, 40), plain_echo_in(pair, 40))

    def test_polynomials_as_tuples(self):
        for heard, cries in itertools.product(DRAWN[::3], WITH_A_FIRST[::2]):
            told = echo_in((heard, cries), 5)
            self.assertEqual(kinds(echo_in((tuple(heard), tuple(cries)), 5)), kinds(told))
            self.assertEqual(echo_in((tuple(heard), cries), 5), told)
            self.assertEqual(echo_in((heard, tuple(cries)), 5), told)

    def test_what_is_handed_in_stays(self):
        pair = ([(1, 2), (1, 3)], [(3, 1), (1, 6)])
        kept = copy.deepcopy(pair)
        told = echo_in(pair, 3)
        told.append(None)
        self.assertEqual(pair, kept)
        self.assertEqual(echo_in(pair, 3), told[:3])

    def test_by_names(self):
        self.assertEqual(echo_in(many=2, pair=([ONE], [ONE, (-1, 2)])), [ONE, (1, 2)])


class SquaresIn(unittest.TestCase):
    def test_by_hand(self):
        self.assertEqual(kinds(squares_in(([], [ONE]))), kinds([ONE]))
        self.assertEqual(kinds(squares_in(([], []))), kinds([]))
        self.assertEqual(squares_in(([ONE], [ONE])), [])
        self.assertEqual(squares_in(([(1, 2), (1, 3)], [ONE, (1, 6)])), [NOUGHT, (2, 3)])
        # Of (1 + 2 x) and x, turned about (2 + x) and 1: (2 + 5 x + 2 x x) less x.
        self.assertEqual(squares_in(([NOUGHT, ONE], [ONE, (2, 1)])), [(2, 1), (4, 1), (2, 1)])
        # Of 3 and 1 + x x: x x (3) (3) against (1 + x x) (1 + x x).
        self.assertEqual(squares_in(([(3, 1)], [ONE, NOUGHT, ONE])), [ONE, NOUGHT, (-7, 1), NOUGHT, ONE])
        self.assertEqual(squares_in(([ONE, NOUGHT, ONE], [(3, 1)])), [(-1, 1), NOUGHT, (7, 1), NOUGHT, (-1, 1)])
        self.assertEqual(squares_in(([(2, 1)], [])), [(-4, 1)])

    def test_of_any_two(self):
        for pair in itertools.product(DRAWN, DRAWN):
            self.assertEqual(kinds(squares_in(pair)), kinds(plain_squares_in(pair)), pair)

    def test_of_a_row_without_a_wall(self):
        for row in FREE_ROWS:
            panes = trimmed(row)[0]
            share = as_fraction(ONE)
            for pane in panes:
                share *= 1 - as_fraction(pane) ** 2
            told = [NOUGHT] * max(0, len(panes) - 1) + [as_pair(share)]
            self.assertEqual(kinds(squares_in(pair_of(row))), kinds(told))

    def test_with_a_wall_it_is_nought(self):
        for row in WALLED_ROWS:
            self.assertEqual(squares_in(pair_of(row)), [])

    def test_polynomials_as_tuples(self):
        for heard, cries in itertools.product(DRAWN[::3], DRAWN[::2]):
            told = squares_in((heard, cries))
            self.assertEqual(kinds(squares_in((tuple(heard), tuple(cries)))), kinds(told))
            self.assertEqual(squares_in((heard, tuple(cries))), told)

    def test_what_is_handed_in_stays(self):
        for pair in [([(1, 2), (1, 3)], [ONE]), ([ONE], [(1, 2), (1, 3)]), ([], [ONE])]:
            kept = copy.deepcopy(pair)
            told = squares_in(pair)
            again = list(told)
            told.append(None)
            self.assertEqual(kinds(pair), kinds(kept))
            self.assertEqual(squares_in(pair), again)

    def test_by_names(self):
        self.assertEqual(squares_in(pair=([], [ONE])), [ONE])


if __name__ == "__main__":
    unittest.main()

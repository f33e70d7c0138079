import copy
import itertools
import unittest
from fractions import Fraction

from echopanes.echoes import echo
from echopanes.ends import from_both, told_apart
from echopanes.errors import Clash, ClashWeights, Few, NoRow
from echopanes.rooms import rooms_of
from echopanes.rows import mirrored
from plain_waves import plain_echo
from sample_rows import FREE_ROWS, ROWS, WEIGHTS, as_fraction, as_pair, kinds

NOUGHT = (0, 1)
BOUND_FREE = [row for row in FREE_ROWS if len(row[0]) <= 13]
SMALL_ROWS = [row for row in ROWS if len(row[0]) <= 5]
# Longer than any two rows of SMALL_ROWS, so that what is told apart at all is told apart by then.
LONG = 14


def told_apart_by_numbers(one, other, many):
    for place, (here, there) in enumerate(zip(plain_echo(one, many), plain_echo(other, many))):
        if here != there:
            return place
    return None


def both_ends(row, left, right):
    """The first numbers of the echoes from both ends, so many of each."""
    return plain_echo(row, left), plain_echo(mirrored(row), right)


def outer_weights(row, first=(1, 1)):
    """The weights of the outer rooms, from the panes alone."""
    last = as_fraction(first)
    for pane in row[0]:
        last *= (1 - as_fraction(pane)) / (1 + as_fraction(pane))
    return (first, as_pair(last))


class ToldApart(unittest.TestCase):
    def test_by_hand(self):
        one = (((1, 2), (1, 3)), 0)
        self.assertEqual(kinds(told_apart(one, (((1, 3), (1, 3)), 0))), kinds(0))
        self.assertEqual(told_apart(one, (((1, 2), (1, 4)), 0)), 1)
        self.assertEqual(told_apart(one, (((1, 2), (1, 3)), 1)), 2)
        self.assertEqual(told_apart(one, (((1, 2),), 1)), 1)
        self.assertEqual(told_apart(one, (((1, 2),), 0)), 1)
        self.assertIsNone(told_apart(one, one))

    def test_by_the_numbers_of_the_echoes(self):
        for one, other in itertools.product(SMALL_ROWS, SMALL_ROWS):
            self.assertEqual(told_apart(one, other), told_apart_by_numbers(one, other, LONG), (one, other))

    def test_noughts_behind(self):
        for row in BOUND_FREE:
            for more in (0, 1, 3):
                longer = (row[0] + (NOUGHT,) * more, 0)
                self.assertIsNone(told_apart(row, longer))
                self.assertIsNone(told_apart(longer, row))
        self.assertIsNone(told_apart(((), 0), ((NOUGHT,) * 12, 0)))

    def test_noughts_ahead_of_a_wall(self):
        for wall in (1, -1):
            for one in range(4):
                for other in range(4):
                    told = told_apart(((NOUGHT,) * one, wall), ((NOUGHT,) * other, wall))
                    self.assertEqual(told, None if one == other else min(one, other))
                self.assertEqual(told_apart(((NOUGHT,) * one, wall), ((NOUGHT,) * one, -wall)), one)
                self.assertEqual(told_apart(((NOUGHT,) * one, wall), ((), 0)), one)
                self.assertEqual(told_apart(((), 0), ((NOUGHT,) * one, wall)), one)

    def test_a_wall_for_a_pane(self):
        for wall in (1, -1):
            one, other = (((1, 2), (59 * wall, 60), (1, 3)), 0), (((1, 2),), wall)
            self.assertEqual(told_apart(one, other), 1)
            self.assertEqual(told_apart(other, one), 1)

    def test_twelve_panes_with_a_wall_behind(self):
        panes = tuple((1, k) for k in range(2, 14))
        self.assertEqual(told_apart((panes, 1), (panes, 0)), 12)
        self.assertEqual(told_apart((panes, 1), (panes, -1)), 12)
        self.assertEqual(told_apart((panes, 0), (panes, -1)), 12)
        self.assertIsNone(told_apart((panes, 1), (panes, 1)))
        self.assertEqual(told_apart((panes, 1), (panes[:11], 1)), 11)
        self.assertEqual(told_apart((panes, 1), (panes[:11] + ((1, 14),), 1)), 11)
        self.assertEqual(told_apart((((NOUGHT,) * 12), 1), ((), 0)), 12)

    def test_at_that_number_and_no_earlier(self):
        for row in ROWS:
            for other in ROWS[::3]:
                place = told_apart(row, other)
                if place is not None:
                    one, two = echo(row, place + 1), echo(other, place + 1)
                    self.assertEqual(one[:place], two[:place])
                    self.assertNotEqual(one[place], two[place])
                else:
                    self.assertEqual(echo(row, 40), echo(other, 40))

    def test_each_way_alike(self):
        for one, other in itertools.product(SMALL_ROWS, SMALL_ROWS):
            self.assertEqual(told_apart(one, other), told_apart(other, one))

    def test_by_names(self):
        self.assertEqual(told_apart(other=(((1, 2),), 0), one=(((1, 3),), 0)), 0)
        self.assertIsNone(told_apart(one=((), 0), other=((NOUGHT,), 0)))


class FromBoth(unittest.TestCase):
    def test_by_hand(self):
        # The mirrored row has panes -1/3 and -1/2.
        self.assertEqual(kinds(from_both([(1, 2)], [(-1, 3)], many=2)), kinds((((1, 2), (1, 3)), 0)))
        self.assertEqual(from_both([(1, 2), (1, 4)], [], many=2), (((1, 2), (1, 3)), 0))
        self.assertEqual(from_both([], [(-1, 3), (-4, 9)], many=2), (((1, 2), (1, 3)), 0))
        self.assertEqual(from_both([], [], many=0), ((), 0))
        self.assertEqual(from_both([], [], many=1, weights=((1, 1), (1, 3))), (((1, 2),), 0))

    def test_enough_numbers_and_more(self):
        for row in BOUND_FREE:
            many = len(row[0])
            for left in range(many + 1):
                for right in {many - left, many - left + 1, many}:
                    one, other = both_ends(row, left, min(right, many))
                    self.assertEqual(kinds(from_both(one, other, many=many)), kinds(row))

    def test_not_trimmed(self):
        self.assertEqual(from_both([NOUGHT, NOUGHT], [NOUGHT], many=3), ((NOUGHT,) * 3, 0))

    def test_with_weights_that_come_so(self):
        for row in BOUND_FREE:
            many = len(row[0])
            for first in WEIGHTS:
                one, other = both_ends(row, many // 2, many - many // 2)
                self.assertEqual(from_both(one, other, many=many, weights=outer_weights(row, first)), row)
                one, other = both_ends(row, many, many)
                self.assertEqual(from_both(one, other, many=many, weights=outer_weights(row, first)), row)

    def test_the_one_that_lacks_is_told_by_the_weights(self):
        for row in BOUND_FREE:
            many = len(row[0])
            for left in range(many):
                for first in WEIGHTS:
                    one, other = both_ends(row, left, many - 1 - left)
                    told = from_both(one, other, many=many, weights=outer_weights(row, first))
                    self.assertEqual(kinds(told), kinds(row))

    def test_great_weights(self):
        great = 10 ** 80
        for weights in [((great, 1), (1, great)), ((1, great), (great, 1)), ((great, great + 1), (great + 1, great))]:
            panes = from_both([(1, 2)], [(-1, 3)], many=3, weights=weights)[0]
            self.assertEqual((panes[0], panes[2]), ((1, 2), (1, 3)))
            self.assertEqual(rooms_of((panes, 0), first=weights[0])[-1], weights[1])

    def test_few(self):
        for row in BOUND_FREE:
            many = len(row[0])
            for left in range(many):
                for right in range(many - left):
                    one, other = both_ends(row, left, right)
                    lack = many - left - right
                    with self.assertRaises(Few) as caught:
                        from_both(one, other, many=many)
                    self.assertEqual(kinds(caught.exception.lack), kinds(lack))
                    if lack > 1:
                        with self.assertRaises(Few) as caught:
                            from_both(one, other, many=many, weights=outer_weights(row))
                        self.assertEqual(caught.exception.lack, lack)

    def test_weights_that_do_not_come_so(self):
        for row in BOUND_FREE:
            many = len(row[0])
            first, last = outer_weights(row, (5, 7))
            wrong = as_pair(as_fraction(last) * Fraction(7, 6))
            for left in {0, many // 2, many}:
                one, other = both_ends(row, left, many)
                for weights in [(first, wrong), (wrong, last), ((1, 10 ** 60), (12, 1))]:
                    with self.assertRaises(ClashWeights):
                        from_both(one, other, many=many, weights=weights)
        with self.assertRaises(ClashWeights):
            from_both([], [], many=0, weights=((1, 1), (2, 1)))
        self.assertEqual(from_both([], [], many=0, weights=((2, 3), (2, 3))), ((), 0))

    def test_a_list_that_is_nones(self):
        wrong = [[(2, 1)], [(1, 2), (4, 5)], [(1, 1), (1, 1)], [(-1, 1), NOUGHT, (1, 5)]]
        for numbers in wrong:
            for right in ([], [(1, 2)], [(1, 2), (1, 4)]):
                with self.assertRaises(NoRow):
                    from_both(numbers, right, many=4)
                with self.assertRaises(NoRow):
                    from_both(right, numbers, many=4)
            with self.assertRaises(NoRow):
                from_both(numbers, numbers, many=4)

    def test_a_list_that_tells_a_wall(self):
        for row in [((), 1), ((), -1), (((1, 2),), 1), (((1, 2), NOUGHT, (-2, 3)), -1)]:
            for more in range(1, 4):
                numbers = plain_echo(row, len(row[0]) + more)
                for right in ([], [(1, 2)], [(1, 3), NOUGHT]):
                    with self.assertRaises(NoRow):
                        from_both(numbers, right, many=8)
                    with self.assertRaises(NoRow):
                        from_both(right, numbers, many=8)
            from_both(plain_echo(row, len(row[0])), [(1, 2)], many=len(row[0]) + 1)

    def test_clash_at_the_first_pane_that_both_tell_unlike(self):
        panes = ((1, 2), (-1, 3), NOUGHT, (2, 5), (1, 7))
        for at in range(5):
            other = panes[:at] + ((3, 7),) + panes[at + 1:]
            for left in range(6):
                for right in range(6):
                    numbers = plain_echo((panes, 0), left)
                    others = plain_echo(mirrored((other, 0)), right)
                    told_by_both = 5 - right <= at < left
                    if told_by_both:
                        with self.assertRaises(Clash) as caught:
                            from_both(numbers, others, many=5)
                        self.assertEqual(kinds(caught.exception.place), kinds(at + 1))
                    elif left + right >= 5:
                        told = from_both(numbers, others, many=5)[0]
                        self.assertEqual(told, panes if at < left else other)

    def test_clash_at_several_panes(self):
        panes, other = ((1, 2),) * 4, ((1, 3), (1, 2), (1, 3), (1, 3))
        numbers, others = plain_echo((panes, 0), 4), plain_echo(mirrored((other, 0)), 4)
        for right, place in [(4, 1), (3, 3), (2, 3), (1, 4)]:
            with self.assertRaises(Clash) as caught:
                from_both(numbers, others[:right], many=4)
            self.assertEqual(caught.exception.place, place)

    def test_the_order_of_refusals(self):
        wrong, wall, right = [(2, 1)], [(1, 1)], ((1, 1), (1, 12))
        # none's or a wall ahead of Few, and of weights
        for numbers in (wrong, wall):
            for weights in (None, right):
                with self.assertRaises(NoRow):
                    from_both(numbers, [], many=9, weights=weights)
                with self.assertRaises(NoRow):
                    from_both([], numbers, many=9, weights=weights)
        # the right one none's ahead of a clash: both tell all of two panes, the first of them unlike
        with self.assertRaises(NoRow):
            from_both([(1, 2), (1, 4)], [(1, 5), (4, 1)], many=2)
        # a clash ahead of weights
        with self.assertRaises(Clash) as caught:
            from_both([(1, 2)], [(1, 2)], many=1, weights=right)
        self.assertEqual(caught.exception.place, 1)
        # Few of two ahead of all that weights tell
        with self.assertRaises(Few) as caught:
            from_both([], [], many=2, weights=right)
        self.assertEqual(caught.exception.lack, 2)

    def test_lists_as_tuples(self):
        row = (((1, 2), (1, 3), (-1, 5)), 0)
        one, other = both_ends(row, 2, 1)
        self.assertEqual(kinds(from_both(tuple(one), tuple(other), many=3)), kinds(row))
        self.assertEqual(from_both(one, tuple(other), many=3), row)
        self.assertEqual(from_both(tuple(one), other[:0], many=3, weights=outer_weights(row)), row)
        self.assertEqual(from_both((), (), many=0), ((), 0))

    def test_what_is_handed_in_stays(self):
        one, other, weights = [(1, 2)], [(-1, 3)], ((1, 1), (1, 6))
        kept = copy.deepcopy((one, other, weights))
        from_both(one, other, many=2, weights=weights)
        self.assertEqual(kinds((one, other, weights)), kinds(kept))

    def test_twelve_panes(self):
        row = (tuple((1, k) for k in range(2, 14)), 0)
        for left in range(13):
            one, other = both_ends(row, left, 12 - left)
            self.assertEqual(from_both(one, other, many=12), row)

    def test_by_names(self):
        row = (((1, 2), (1, 3)), 0)
        self.assertEqual(from_both(many=2, right=[(-1, 3)], left=[(1, 2)]), row)
        self.assertEqual(from_both(weights=((1, 1), (1, 6)), many=2, right=[(-1, 3)], left=[]), row)
        self.assertEqual(from_both([(1, 2)], [(-1, 3)], many=2, weights=None), row)
        with self.assertRaises(TypeError):
            from_both([(1, 2)], [(-1, 3)], 2)
        with self.assertRaises(TypeError):
            from_both([(1, 2)], [(-1, 3)])


if __name__ == "__main__":
    unittest.main()

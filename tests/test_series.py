import unittest

from echopanes.series import ahead_of_pane, ahead_of_panes, behind_pane, heard_of_one, lowered, product, quotient, scaled
from sample_rows import as_fraction, as_pair, kinds

LISTS = [
    [],
    [(1, 1)],
    [(0, 1), (0, 1)],
    [(1, 2), (-1, 3)],
    [(5, 6), (0, 1), (-7, 10), (1, 15)],
    [(10 ** 30, 7), (1, 10 ** 30 + 1), (-3, 1)],
]
PANES = [(0, 1), (1, 2), (-3, 5), (59, 60)]


def plain_product(one, other, many):
    told = []
    for place in range(many):
        pairs = [(i, place - i) for i in range(place + 1) if i < len(one) and place - i < len(other)]
        told.append(as_pair(as_fraction((0, 1)) + sum(as_fraction(one[i]) * as_fraction(other[j]) for i, j in pairs)))
    return told


class Series(unittest.TestCase):
    def test_scaled(self):
        self.assertEqual(scaled([]), ([], 1))
        for numbers in LISTS:
            wholes, bottom = scaled(numbers)
            self.assertEqual([as_pair(as_fraction((whole, bottom))) for whole in wholes], numbers)
        self.assertEqual(scaled([(1, 2), (-1, 3), (5, 6)]), ([3, -2, 5], 6))

    def test_lowered(self):
        self.assertEqual(lowered([4, 0, -6], [10]), ([2, 0, -3], [5]))
        self.assertEqual(lowered([0], [7]), ([0], [1]))
        self.assertEqual(lowered([], [3, 5]), ([], [3, 5]))

    def test_product(self):
        for one in LISTS:
            for other in LISTS:
                for many in (0, 1, 2, 5, 9):
                    told = product(one, other, many)
                    self.assertEqual(kinds(told), kinds(plain_product(one, other, many)))
                    self.assertEqual(product(tuple(one), tuple(other), many), told)

    def test_quotient_is_what_the_product_was_of(self):
        for one in LISTS:
            for other in [numbers for numbers in LISTS if numbers and numbers[0] != (0, 1)]:
                for many in (0, 1, 2, 5, 9):
                    together, bottom = scaled(one + other)
                    told = quotient(together[:len(one)], together[len(one):], many)
                    padded = one[:many] + [(0, 1)] * (many - len(one))
                    self.assertEqual(kinds(plain_product(told, other, many)), kinds(padded))

    def test_heard_of_one(self):
        for numbers in LISTS:
            heard, cries = heard_of_one(numbers)
            self.assertEqual((heard, cries[0]), scaled(numbers))
            self.assertEqual(cries[1:], [0] * len(numbers))

    def test_ahead_of_several_panes(self):
        for heard, cries in [([0], [1]), ([3, 5], [2, 0])]:
            told = (heard, cries)
            for pane in reversed(PANES):
                told = ahead_of_pane(pane, told[0], told[1])
            self.assertEqual(ahead_of_panes(PANES, heard, cries), told)
            self.assertEqual(ahead_of_panes([], heard, cries), (heard, cries))

    def test_ahead_of_a_pane_and_behind_it(self):
        for pane in PANES:
            for heard, cries in [([0], [1]), ([3], [2]), ([1, -2, 0], [5, 7, 1])]:
                ahead, cried = ahead_of_pane(pane, list(heard), list(cries))
                self.assertEqual((len(ahead), len(cried)), (len(heard) + 1, len(cries) + 1))
                behind, left = behind_pane(pane, ahead, cried + [0])
                many = len(heard)
                self.assertEqual(quotient(behind, left, many), quotient(heard, cries, many))

    def test_past_a_pane_the_squares_difference_is_scaled(self):
        for pane in PANES:
            for heard, cries in [([0], [1]), ([3], [2]), ([1, -2, 0], [5, 7, 1])]:
                ahead, cried = ahead_of_pane(pane, list(heard), list(cries))
                difference = sum(cry ** 2 for cry in cries) - sum(echo ** 2 for echo in heard)
                self.assertEqual(
                    sum(cry ** 2 for cry in cried) - sum(echo ** 2 for echo in ahead),
                    difference * (pane[1] ** 2 - pane[0] ** 2),
                )


if __name__ == "__main__":
    unittest.main()

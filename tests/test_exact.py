import unittest

from echopanes.exact import (
    common_part, fraction, is_fraction, is_more, is_number, minus, over, plus, squares_of, times,
    without_last_noughts,
)
from sample_rows import as_fraction, as_pair, kinds

NUMBERS = list(range(-13, 14)) + [60, -60, 10 ** 50, -(10 ** 50) + 1]
FRACTIONS = sorted({as_pair(as_fraction((top, bottom))) for top in NUMBERS for bottom in (1, 2, 6, 60, 10 ** 30)})


class Fractions(unittest.TestCase):
    def test_fraction_is_in_lowest_terms(self):
        for top in NUMBERS:
            for bottom in NUMBERS:
                if bottom != 0:
                    self.assertEqual(kinds(fraction(top, bottom)), kinds(as_pair(as_fraction((top, bottom)))))

    def test_sums_and_products(self):
        for one in FRACTIONS:
            for other in FRACTIONS:
                a, b = as_fraction(one), as_fraction(other)
                self.assertEqual(plus(one, other), as_pair(a + b))
                self.assertEqual(minus(one, other), as_pair(a - b))
                self.assertEqual(times(one, other), as_pair(a * b))
                if b != 0:
                    self.assertEqual(over(one, other), as_pair(a / b))

    def test_what_is_told_is_a_fraction(self):
        for one in FRACTIONS:
            for other in FRACTIONS[::5]:
                for told in (plus(one, other), minus(one, other), times(one, other)):
                    self.assertIs(is_fraction(told), True)

    def test_common_part(self):
        self.assertEqual(common_part(0, 0), 0)
        self.assertEqual(common_part(0, 5), 5)
        self.assertEqual(common_part(-12, 18), 6)
        self.assertEqual(common_part(12, -18), 6)

    def test_is_more(self):
        for one in FRACTIONS:
            for other in FRACTIONS:
                self.assertIs(is_more(one, other), as_fraction(one) > as_fraction(other))

    def test_squares_of(self):
        self.assertEqual(squares_of([]), (0, 1))
        for at in range(len(FRACTIONS)):
            numbers = FRACTIONS[at:at + 3]
            self.assertEqual(squares_of(numbers), as_pair(sum(as_fraction(number) ** 2 for number in numbers)))

    def test_without_last_noughts(self):
        for kind in (list, tuple):
            for numbers in ([], [(1, 2)], [(0, 1), (1, 2)]):
                for more in range(3):
                    told = without_last_noughts(kind(numbers + [(0, 1)] * more))
                    self.assertEqual(kinds(told), kinds(kind(numbers)))

    def test_is_number(self):
        for thing in (0, 1, -1, 10 ** 50):
            self.assertIs(is_number(thing), True)
        for thing in (True, False, None, "1", "", [], (), [1], (1, 1)):
            self.assertIs(is_number(thing), False)

    def test_is_fraction(self):
        for thing in [(0, 1), (1, 1), (-1, 1), (7, 2), (-7, 2), (10 ** 50, 3)]:
            self.assertIs(is_fraction(thing), True)
        wrong = [
            (0, 2), (2, 4), (3, 3), (1, 0), (0, 0), (1, -2), (-1, -1), (True, 2), (False, 1), (1, True),
            (1,), (), (1, 2, 1), [1, 2], "12", None, True, 1, ("1", 2), (1, "2"), (None, 1), (1, None),
            ((1, 1), 1), (1, (1, 1)), ([], []),
        ]
        for thing in wrong:
            self.assertIs(is_fraction(thing), False, thing)


if __name__ == "__main__":
    unittest.main()

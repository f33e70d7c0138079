import string
import unittest

from echopanes.errors import BadText
from echopanes.rowtext import row_in_text, row_text
from sample_rows import ROWS, kinds

NOUGHT = (0, 1)
SIGNS = [chr(code) for code in range(32, 127)] + ["\n", "\t", "\r", "\0", "\u00e9", "\u0661", "\u00b2", "\u2153", "\uff11", "\u2212"]

TEXTS = [
    (((), 0), "row"),
    (((), 1), "row wall 1"),
    (((), -1), "row wall -1"),
    (((NOUGHT,), 0), "row 0"),
    ((((1, 2), (-1, 3)), 0), "row 1/2 -1/3"),
    ((((59, 60), NOUGHT, (-59, 60)), -1), "row 59/60 0 -59/60 wall -1"),
    (((NOUGHT, NOUGHT), 1), "row 0 0 wall 1"),
    ((((100, 1001), (-10, 10 ** 20 + 1)), 0), "row 100/1001 -10/100000000000000000001"),
]

WRONG_TEXTS = [
    "", " ", "\n", "row ", " row", "row\n", "\nrow", "Row", "ROW", "rows", "ro", "row  0", "row 0 ", "row  ", "row\t0", "row\n0",
    "0", "1/2", "row row", "row 0 row", "hall 0", "row,0",
    # no pane
    "row 1", "row -1", "row 2", "row 3/2", "row -3/2", "row 1/1", "row 10/10",
    # noughts ahead, no lowest terms, a bottom of 1 or 0, other signs
    "row 00", "row 01/2", "row 1/02", "row -01/2", "row 1/2 00", "row 2/4", "row -3/9", "row 0/1", "row 0/2", "row 0/0", "row 1/0",
    "row -0", "row -0/1", "row +1/2", "row 1/+2", "row 1/-2", "row -1/-2", "row --1/2", "row 1-/2", "row - 1/2", "row 1 /2", "row 1/ 2",
    "row /2", "row 1/", "row /", "row -/2", "row -", "row 1//2", "row 1/2/3", "row 0.5", "row 1_0/11", "row 1e0/2", "row (1, 2)",
    "row \u0661/2", "row 1/\u0662", "row \u00bd", "row \uff11/2", "row 1\u20442", "row \u22121/2", "row 1/2\u00a01/3",
    # walls
    "row wall", "row wall 0", "row wall 2", "row wall -2", "row wall 01", "row wall +1", "row wall 1/1", "row wall  1", "row wall 1 ",
    "row wall -1 ", "row wall --1", "row 1/2 wall", "row 1/2 wall 0", "row wall 1 1/2", "row wall 1 wall 1", "row wall -1 wall 1",
    "row 1/2 Wall 1", "row 1/2wall 1", "row 1/2 wall1", "row 1/2 1", "row 1/2 -1", "wall 1", "wall", "wall 1 row", "row wall wall 1",
]


class RowText(unittest.TestCase):
    def test_by_hand(self):
        for row, text in TEXTS:
            self.assertEqual(kinds(row_text(row)), kinds(text))

    def test_twelve_panes(self):
        panes = tuple((1, k) for k in range(2, 14))
        text = "row 1/2 1/3 1/4 1/5 1/6 1/7 1/8 1/9 1/10 1/11 1/12 1/13"
        self.assertEqual(row_text((panes, 0)), text)
        self.assertEqual(row_text((panes, -1)), text + " wall -1")

    def test_very_long_numbers(self):
        # Python itself refuses to write or read numbers of more than 4300 figures.
        for figures in (17, 18, 19, 36, 37, 4299, 4301, 9000):
            great = 10 ** figures
            told = row_text((((great - 1, great), (-1, great + 1), (1, 3)), 0))
            self.assertEqual(told, f"row {'9' * figures}/1{'0' * figures} -1/1{'0' * (figures - 1)}1 1/3")
            self.assertEqual(row_in_text(told), (((great - 1, great), (-1, great + 1), (1, 3)), 0))

    def test_noughts_within_long_numbers(self):
        great = 7 * 10 ** 40 + 3 * 10 ** 18 + 1
        self.assertEqual(row_text((((2, great),), 0)), "row 2/70000000000000000000003000000000000000001")

    def test_by_names(self):
        self.assertEqual(row_text(row=((), 1)), "row wall 1")


class RowInText(unittest.TestCase):
    def test_by_hand(self):
        for row, text in TEXTS:
            self.assertEqual(kinds(row_in_text(text)), kinds(row))

    def test_of_what_row_text_tells(self):
        for row in ROWS:
            self.assertEqual(kinds(row_in_text(row_text(row))), kinds(row))

    def check_bad(self, text):
        with self.assertRaises(BadText) as caught:
            row_in_text(text)
        self.assertEqual(kinds(caught.exception.text), kinds(text))

    def test_wrong_texts(self):
        for text in WRONG_TEXTS:
            self.check_bad(text)

    def told_or_bad(self, text):
        """The row told by a text is the one that has it; else the text is bad."""
        try:
            row = row_in_text(text)
        except BadText as why:
            self.assertEqual(why.text, text)
            return False
        self.assertEqual(row_text(row), text)
        return True

    def test_one_sign_otherwise_put_in_or_left_out(self):
        right = 0
        for row, text in TEXTS:
            known = {told for other, told in TEXTS}
            for at in range(len(text) + 1):
                for sign in SIGNS:
                    for other in (text[:at] + sign + text[at:], text[:at] + sign + text[at + 1:]):
                        good = self.told_or_bad(other)
                        right += good
                        if other in known:
                            self.assertTrue(good)
                        if not set(other) <= set("row al/-0123456789"):
                            self.assertFalse(good)
                if at < len(text):
                    self.told_or_bad(text[:at] + text[at + 1:])
        self.assertGreater(right, 100)

    def test_each_row_has_but_one_text(self):
        # Whatever is told by a text has no other one: these all mean a half.
        for text in ("row 1/2", "row 2/4", "row 01/2", "row 1/02", "row +1/2", "row 1/2 ", "row 0.5"):
            if text != "row 1/2":
                self.check_bad(text)

    def test_texts_of_a_single_sign(self):
        for sign in SIGNS + list(string.printable):
            self.check_bad(sign)
            self.check_bad("row" + sign)
            self.check_bad(sign + "row")
            if sign != "0":
                self.check_bad("row " + sign)

    def test_very_long_texts(self):
        self.check_bad("row " + "9" * 6000)
        self.check_bad("row 1/2 " * 200)
        self.check_bad("row 2/" + "4" * 5000)
        self.assertEqual(row_in_text("row" + " 1/2" * 200)[0], ((1, 2),) * 200)

    def test_by_names(self):
        self.assertEqual(row_in_text(text="row wall 1"), ((), 1))
        with self.assertRaises(BadText):
            row_in_text(text="")


if __name__ == "__main__":
    unittest.main()

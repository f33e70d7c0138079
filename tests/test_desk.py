import random
import unittest
from fractions import Fraction

from echopanes.desk import answers
from echopanes.errors import BadRow
from echopanes.hall import Hall
from echopanes.rowtext import row_text
from plain_hall import PlainHall
from sample_halls import HALLS, SIDES, SIZES, WEIGHTS
from sample_rows import as_pair, kinds


def text_of(number):
    top, bottom = number
    return str(top) if bottom == 1 else f"{top}/{bottom}"


def hall_row(rooms, wall):
    return " ".join(["hall"] + [text_of(weight) for weight in rooms] + (["wall", str(wall)] if wall else []))


def plain_answer(plain, row):
    """The answer to a right row behind the first one."""
    word, *parts = row.split(" ")
    if word == "ledger":
        return " ".join(text_of(part) for part in plain.asked()["ledger"])
    if word == "row":
        return row_text(plain.asked()["row"])
    if word == "cry":
        deed = ("cry", parts[0], number_of(parts[1]))
    elif word == "change":
        deed = ("change", int(parts[0]), number_of(parts[1]))
    else:
        deed = (word,)
    told, refused = plain.deed(deed)
    if refused is not None:
        return "refused " + refused[0]
    if word == "undo":
        return "yes" if told else "no"
    if word == "beat":
        return " ".join(text_of(number) for number in told[0])
    return "done"


def number_of(text):
    top, slash, bottom = text.partition("/")
    return (int(top), int(bottom or 1))


def drawn_rows(chance, rooms, many):
    rows = []
    for _ in range(many):
        word = chance.choice(["cry", "cry", "change", "beat", "beat", "turn", "undo", "ledger", "row"])
        if word == "cry":
            rows.append(f"cry {chance.choice(SIDES)} {text_of(chance.choice(SIZES))}")
        elif word == "change":
            rows.append(f"change {chance.randrange(len(rooms) + 2)} {text_of(chance.choice(WEIGHTS))}")
        else:
            rows.append(word)
    return rows


RIGHT_ROWS = [
    "cry left 1", "cry right -1/2", "cry left 0", "cry left 999999/999998", "cry left -999999", "cry right 1/999999",
    "change 0 1", "change 1 999999/999998", "change 999 1", "change 10 1/2", "turn", "undo", "beat", "ledger", "row",
]

WRONG_ROWS = [
    # blanks
    " ", "  ", " turn", "turn ", " turn ", "cry  left 1", "cry left  1", "cry left 1 ", "\tturn", "turn\t", "turn\r", "cry\tleft 1",
    # words
    "Turn", "turns", "tur", "turn turn", "undo 1", "beat 1", "beat 2", "ledger 1", "row 1", "row 1/2", "done", "yes", "do", "log",
    "rooms", "twin", "0", "hall", "hall 1 2", "hall 1 wall 1", "as_of 1",
    # cries
    "cry", "cry left", "cry 1", "cry left 1 2", "cry Left 1", "cry up 1", "cry l 1", "cry left one", "cry left 01", "cry left -0",
    "cry left 2/4", "cry left 1/1", "cry left 1/0", "cry left 0/1", "cry left 1/-2", "cry left +1", "cry left 1.5", "cry left --1",
    "cry left 1000000", "cry left -1000000", "cry left 1/1000000", "cry left 1234567/2", "cry left -", "cry left /2", "cry left 1/",
    "cry left \u0661", "cry left \u00b2", "cry left 1/2/3", "cry left wall 1",
    "call left 1", "Cry left 1", "crys left 1", "beat left 1", "left left 1", "Change 1 1", "room 1 1", "changes 1 1",
    # changes
    "change", "change 1", "change 1 1 1", "change -1 1", "change -0 1", "change 01 1", "change 00 1", "change 1000 1", "change 1/2 1",
    "change +1 1", "change one 1", "change 1 0", "change 1 -1", "change 1 -1/2", "change 1 2/4", "change 1 01", "change 1 1/1",
    "change 1 1000000", "change 1 1/1000000", "change 1 1/0", "change 1 0/1", "change 1 +1", "change \u0661 1", "change  1", "change 1 ",
]

WRONG_HALLS = [
    "hall", "hall ", "hall  1 2", " hall 1 2", "hall 1 2 ", "Hall 1 2", "halls 1 2", "hall 1", "hall 1/2", "hall wall 1", "hall wall -1",
    "hall 1 2 wall", "hall 1 2 wall 0", "hall 1 2 wall 2", "hall 1 2 wall 01", "hall 1 2 wall +1", "hall 1 2 wall  1", "hall 1 2 wall 1 ",
    "hall 1 wall", "hall 1 wall 0", "hall 1 wall 1 2", "hall 1 2 wall 1 wall 1", "hall wall 1 1 2", "hall 1 2 Wall 1", "hall 0 1", "hall 1 0",
    "hall -1 2", "hall 1 -2", "hall 1 -1/2", "hall 1 2/4", "hall 01 2", "hall 1 02", "hall 1/1 2", "hall 1/0 2", "hall 0/1 2", "hall 1 -0",
    "hall 1000000 1", "hall 1 1/1000000", "hall 1 1000000/7", "hall 1,2", "hall 1 a", "hall 1 \u0662", "hall 1 0.5", "hall 1 +2",
    "wall 1", "1 2", "row", "beat", "cry left 1", "change 0 1", "turn", "undo", "ledger", "done", " ", "\t", "hall 1\t2",
]


class Answers(unittest.TestCase):
    def test_by_hand(self):
        sheet = "\n".join([
            "hall 3 1 1/2", "cry left 1", "beat", "", "ledger", "row", "change 1 2", "row", "beat", "row", "ledger", "turn", "beat",
            "cry right -1/2", "change 3 1", "undo", "undo", "undo", "undo", "undo", "undo", "undo", "undo", "ledger",
        ])
        self.assertEqual(kinds(answers(sheet)), kinds([
            "done", "done", "1/2 0", "3 0 3/4 9/4", "row 1/2 1/3", "done", "row 1/2 1/3", "0 12/5", "row 1/5 3/5", "3 9/4 363/100 81/50",
            "done", "0 36/25", "done", "refused NoRoom", "yes", "yes", "yes", "yes", "yes", "yes", "yes", "no", "0 0 0 0",
        ]))

    def test_a_wall(self):
        self.assertEqual(answers("hall 5/7 wall -1\ncry left 3/2\ncry right 1\nbeat\nrow\nbeat\nchange 1 1\nchange 0 2\nbeat\nledger"), [
            "done", "done", "refused Walled", "-3/2 0", "row wall -1", "0 0", "refused NoRoom", "done", "0 0", "45/28 0 45/28 0",
        ])
        self.assertEqual(answers("hall 3 1 wall 1\nrow"), ["done", "row 1/2 wall 1"])

    def test_a_hall_alone(self):
        for row in ("hall 1 2", "hall 1 wall 1", "hall 1 wall -1", "hall 1/2 3/4 5 wall 1", "hall 999999 1/999999", "hall 999999/2 1"):
            self.assertEqual(kinds(answers(row)), kinds(["done"]))

    def test_each_right_row(self):
        for row in RIGHT_ROWS:
            told = answers("hall 1 2 3\n" + row)
            self.assertEqual(len(told), 2)

    def test_of_any_sheet(self):
        chance = random.Random(7)
        for rooms, wall in HALLS * 2:
            rows, plain = drawn_rows(chance, rooms, 40), PlainHall(rooms, wall)
            right = ["done"] + [plain_answer(plain, row) for row in rows]
            self.assertEqual(kinds(answers("\n".join([hall_row(rooms, wall)] + rows))), kinds(right))

    def test_empty_rows_are_passed_over(self):
        rows = ["hall 1 2", "cry left 1", "beat", "undo"]
        right = answers("\n".join(rows))
        self.assertEqual(answers("\n\n" + "\n\n\n".join(rows) + "\n\n"), right)
        self.assertEqual(answers("\n".join(rows) + "\n"), right)
        self.assertEqual(answers("\n" + "\n".join(rows)), right)

    def test_what_is_refused_changes_nothing(self):
        right = answers("hall 1 2 wall 1\ncry left 1\nbeat\nledger\nundo\nundo\nundo")
        told = answers("hall 1 2 wall 1\ncry right 1\ncry left 1\nchange 2 1\nbeat\nchange 999 5\nledger\ncry right 0\nundo\nundo\nundo")
        self.assertEqual([row for row in told if not row.startswith("refused")], right)
        self.assertEqual([row for row in told if row.startswith("refused")],
                         ["refused Walled", "refused NoRoom", "refused NoRoom", "refused Walled"])

    def test_two_hundred_rows(self):
        rows = ["hall " + " ".join(str(k % 12 + 1) for k in range(13))]
        for at in range(40):
            rows += [f"cry left {at + 1}/61", f"change {at % 13} {at % 12 + 1}", "beat", "ledger"]
        rows += ["row", "undo"] * 20
        rows = rows[:200]
        plain = PlainHall([(k % 12 + 1, 1) for k in range(13)])
        right = ["done"]
        for row in rows[1:40]:
            right.append(plain_answer(plain, row))
        told = answers("\n".join(rows))
        self.assertEqual(told[:40], right)
        self.assertEqual(len(told), 200)

    def test_numbers_too_long_for_python_to_write_at_once(self):
        weights = " ".join(text_of(as_pair(Fraction(900001 + 6 * k, 524287 - 2 * k))) for k in range(13))
        cries = "cry left 999999/999998\ncry right 1/999997\n"
        told = answers(f"hall {weights}\n{cries}" + "beat\n" * 40 + "ledger")
        hall = Hall([number_of(weight) for weight in weights.split()])
        hall.cry("left", (999999, 999998))
        hall.cry("right", (1, 999997))
        hall.beat(40)
        parts = told[-1].split(" ")
        self.assertGreater(max(len(part.partition("/")[2]) for part in parts), 4300)
        # Its last nine figures, and how many there are, show each number well enough.
        for part, right in zip(parts, hall.ledger()):
            top, slash, bottom = part.partition("/")
            for figures, number in ((top, right[0]), (bottom or "1", right[1])):
                self.assertEqual(int(figures[-9:]), number % 10 ** 9)
                self.assertTrue(10 ** (len(figures) - 1) <= number < 10 ** len(figures) or number == 0)

    def test_told_anew_each_time(self):
        sheet = "hall 1 2\ncry left 1\nbeat"
        told = answers(sheet)
        kept = list(told)
        told.clear()
        self.assertEqual(answers(sheet), kept)

    def test_by_names(self):
        self.assertEqual(answers(text="hall 1 2"), ["done"])
        with self.assertRaises(BadRow):
            answers(text="hall 1")


class Bad(unittest.TestCase):
    def check_bad(self, text, number):
        with self.assertRaises(BadRow) as caught:
            answers(text)
        self.assertEqual(kinds(caught.exception.number), kinds(number), text)

    def test_wrong_rows(self):
        for row in WRONG_ROWS:
            self.check_bad("hall 1 2 3\n" + row, 1)
            self.check_bad("hall 1 2 3\nturn\n\n" + row + "\nturn", 3)
            self.check_bad("\n\nhall 1 2 3\n" + row, 3)

    def test_wrong_halls(self):
        for row in WRONG_HALLS:
            self.check_bad(row, 0)
            self.check_bad("\n\n" + row + "\nturn", 2)

    def test_the_first_of_several(self):
        self.check_bad("hall 1 2\nturn\nwrong\nwrong\nturn", 2)
        self.check_bad("hall 1\nwrong", 0)
        self.check_bad("\nturn\nwrong", 1)

    def test_ahead_of_all_that_is_refused(self):
        self.check_bad("hall 1 2 wall 1\ncry right 1\nchange 9 1\nwrong", 3)

    def test_a_second_hall(self):
        self.check_bad("hall 1 2\nhall 1 2", 1)
        self.check_bad("hall 1 2\n\nbeat\nhall 1 wall 1", 3)

    def test_no_row_has_a_sign(self):
        for many in range(5):
            self.check_bad("\n" * many, many + 1)

    def test_a_row_of_blanks_has_signs(self):
        self.check_bad(" ", 0)
        self.check_bad("\n \n", 1)
        self.check_bad("hall 1 2\n \n", 1)

    def test_figures(self):
        for weight in ("999999", "1/999999", "999999/999998"):
            self.assertEqual(answers(f"hall {weight} {weight}\nchange 1 {weight}\ncry left {weight}\ncry left -{weight}"), ["done"] * 4)
        for weight in ("1000000", "1/1000000", "1000001/1000000", "9999999"):
            self.check_bad(f"hall {weight} 1", 0)
            self.check_bad(f"hall 1 2\nchange 1 {weight}", 1)
            self.check_bad(f"hall 1 2\ncry left {weight}", 1)
            self.check_bad(f"hall 1 2\ncry left -{weight}", 1)
        for room in ("0", "1", "2", "10", "999"):
            self.assertEqual(len(answers(f"hall 1 2\nchange {room} 1")), 2)
        for room in ("1000", "0000", "00", "000", "001", "9999", ""):
            self.check_bad(f"hall 1 2\nchange {room} 1", 1)

    def test_very_long_rows(self):
        self.check_bad("hall 1 2\ncry left " + "9" * 6000, 1)
        self.check_bad("hall 1 2\nchange " + "9" * 6000 + " 1", 1)
        self.check_bad("hall 1 2\n" + "turn" * 1000, 1)

    def test_other_ends_of_rows_are_signs(self):
        for end in ("\r\n", "\r", "\x0b", "\x0c", "\x1c", "\x85", "\u2028"):
            self.check_bad("hall 1 2" + end + "turn", 0)


if __name__ == "__main__":
    unittest.main()

"""What is promised over the whole program: each promise beside the others, over histories of all kinds."""

import unittest
from fractions import Fraction

from echopanes.behind import echo_behind, taken
from echopanes.desk import answers
from echopanes.echoes import echo, echoes_of
from echopanes.ends import from_both, told_apart
from echopanes.finding import beginning, found_back, next_of
from echopanes.checking import shows_none, shows_row
from echopanes.hall import Hall
from echopanes.late import first_heard, parts_of, told_late
from echopanes.pairs import echo_in, is_pair, pair_of, row_in
from echopanes.records import record_of, shows_record
from echopanes.rooms import row_of
from echopanes.rows import is_row, mirrored, trimmed
from echopanes.rowtext import row_in_text, row_text
from sample_halls import (
    FREE_HALLS, HALLS, LONG_HALLS, SIDES, SIZES, WEIGHTS, do_deed, drawn_history, hall_after,
)
from sample_rows import as_fraction, as_pair

NOUGHT, ONE = (0, 1), (1, 1)
LONGEST = [("do", [("cry", "left", SIZES[at % 6]), ("change", at % 13, WEIGHTS[at % 7]), ("beat",)]) for at in range(40)]
LONGEST = LONGEST[:17] + [("turn",)] * 7 + LONGEST[17:] + [("change", 3, (5, 1))] * 13


def histories():
    """Rooms, a wall and a hall through deeds of all kinds, many of them undone or refused."""
    for seed, (rooms, wall) in enumerate(HALLS * 3):
        yield rooms, wall, hall_after(rooms, wall, drawn_history(rooms, wall, 500 + seed, 30))
    for rooms, wall in LONG_HALLS:
        yield rooms, wall, hall_after(rooms, wall, LONGEST)


def square(number):
    return as_fraction(number) ** 2


def ledger_by(record):
    """The four of the ledger, reckoned from what came and left alone."""
    cried = work = heard = on_way = Fraction(0)
    ahead = None
    for rooms, comes, leaves in record:
        weights = [as_fraction(weight) for weight in rooms]
        cried += weights[0] * square(comes[0][0]) + weights[-1] * square(comes[-1][1])
        heard += weights[0] * square(leaves[0][0]) + weights[-1] * square(leaves[-1][1])
        for room in range(1, len(comes)):
            if ahead is not None:
                work += (weights[room] - ahead[room]) * (square(comes[room - 1][1]) + square(comes[room][0]))
        ahead = weights
        on_way = sum(
            (weights[room] * (square(leaves[room - 1][1]) + square(leaves[room][0])) for room in range(1, len(comes))),
            Fraction(0))
    return tuple(as_pair(part) for part in (cried, work, heard, on_way))


class TheLedger(unittest.TestCase):
    def test_it_is_even(self):
        for rooms, wall, hall in histories():
            for many in range(hall.deeds() + 1):
                cried, work, heard, on_way = (as_fraction(part) for part in hall.as_of(many).ledger())
                self.assertEqual(cried + work, heard + on_way)

    def test_by_the_records(self):
        for rooms, wall, hall in histories():
            self.assertEqual(hall.ledger(), ledger_by(record_of(hall)))

    def test_work_is_done_in_some_histories(self):
        self.assertTrue(any(hall.ledger()[1] != NOUGHT for rooms, wall, hall in histories()))


class Records(unittest.TestCase):
    def test_what_is_heard_and_where_the_rooms_are(self):
        for rooms, wall, hall in histories():
            record = record_of(hall)
            self.assertEqual([leaves[0][0] for then, comes, leaves in record], hall.heard("left"))
            self.assertEqual([leaves[-1][1] for then, comes, leaves in record], hall.heard("right"))
            self.assertIs(shows_record(wall, record), True)
            if record:
                self.assertEqual(record[-1][0], hall.rooms())

    def test_the_way_home_is_the_record_from_its_end(self):
        for rooms, wall, hall in histories():
            steps = hall.steps()
            while steps and steps[-1][0] != "beat":
                steps.pop()
            home = Hall(rooms, wall=wall)
            home.do(steps)
            record, turned = record_of(home), list(self.turns_ahead_of_beats(steps))
            home.turn()
            for (then, comes, leaves), turned_there in zip(reversed(record), reversed(turned)):
                home.do([("change", room, weight) for room, weight in enumerate(then)])
                home.cry("left", leaves[0][0])
                if wall == 0:
                    home.cry("right", leaves[-1][1])
                home.beat()
                if turned_there:
                    home.turn()
            back = [(then, leaves, comes) for then, comes, leaves in reversed(record)]
            self.assertEqual(record_of(home), record + back)
            self.assertEqual(set(home.on_way()) - {(NOUGHT, NOUGHT)}, set())

    def turns_ahead_of_beats(self, steps):
        """Of each beat, whether all was turned about an odd number of times since the beat ahead."""
        turned = False
        for step in steps:
            if step[0] == "turn":
                turned = not turned
            elif step[0] == "beat":
                for _ in range(step[1]):
                    yield turned
                    turned = False


class Parts(unittest.TestCase):
    def test_what_is_heard_is_the_sum_of_the_parts(self):
        for rooms, wall, hall in histories():
            parts = parts_of(hall)
            for at, side in enumerate(SIDES):
                sums = [sum((as_fraction(part[2][at][beat]) for part in parts), Fraction(0)) for beat in range(hall.beats())]
                self.assertEqual([as_pair(number) for number in sums], hall.heard(side))

    def test_a_cry_told_late_is_a_part_more(self):
        for rooms, wall, hall in histories():
            for beat in range(1, hall.beats() + 1, 3):
                left, right = told_late(hall, beat, "left", (2, 7))
                silent = [deed for deed in hall.steps() if deed[0] != "cry"]
                other = Hall(rooms, wall=wall)
                other.do(silent)
                alone = told_late(other, beat, "left", (2, 7))
                for told, own, side in ((left, alone[0], "left"), (right, alone[1], "right")):
                    sums = [as_fraction(one) + as_fraction(two) for one, two in zip(own, hall.heard(side))]
                    self.assertEqual([as_pair(number) for number in sums], told)

    def test_nothing_is_heard_ahead_of_its_beat(self):
        for rooms, wall, hall in histories():
            for beat, side, heard in parts_of(hall):
                for numbers in heard:
                    self.assertEqual(numbers[:beat - 1], [NOUGHT] * (beat - 1))


class Heard(unittest.TestCase):
    def test_a_change_is_heard_no_sooner(self):
        for rooms, wall, hall in histories():
            for room in range(len(rooms)):
                one, other = hall.twin(), hall.twin()
                other.change(room, (11, 3))
                one.beat(len(rooms) + 3)
                other.beat(len(rooms) + 3)
                for side in SIDES:
                    first = first_heard(hall, room, side)
                    same = len(one) if first is None else hall.beats() + first - 1
                    self.assertEqual(one.heard(side)[:same], other.heard(side)[:same])

    def test_from_what_is_heard_by_taking_the_cries_off_the_row(self):
        for rooms, wall in HALLS + LONG_HALLS:
            hall = Hall(rooms, wall=wall)
            cries = [(2, 3), (-1, 5), NOUGHT, (60, 59), ONE, (1, 2), NOUGHT, (3, 7), NOUGHT, ONE, (1, 9), (5, 1), NOUGHT]
            for size in cries:
                hall.cry("left", size)
                hall.beat(2)
            told = echoes_of(cries, hall.heard("left")[::2])
            self.assertEqual(told, echo(hall.row(), 13))
            self.assertEqual(found_back(told), ("row", trimmed(hall.row())))
            self.assertEqual(row_in(pair_of(hall.row())), trimmed(hall.row()))

    def test_with_cries_on_the_right_too(self):
        for rooms, wall in FREE_HALLS:
            hall = Hall(rooms)
            for at in range(12):
                hall.cry("right", SIZES[at % 6])
                hall.cry("left", (1 if at % 2 == 0 else 0, 1))
                hall.beat()
            own = [Fraction(0)] * 12
            for beat, side, heard in parts_of(hall):
                if side == "left":
                    own = [one + as_fraction(more) for one, more in zip(own, heard[0])]
            told = echoes_of([ONE] * 6, [as_pair(number) for number in own][::2])
            self.assertEqual(found_back(told), ("row", trimmed(hall.row())))

    def test_behind_a_row_and_from_both_ends(self):
        for rooms, wall in FREE_HALLS:
            panes = row_of(rooms)[0]
            for at in range(len(panes) + 1):
                ahead, behind = (panes[:at], 0), (panes[at:], 0)
                told = echo((panes, 0), len(panes) + 3)
                self.assertEqual(taken(ahead, told), echo(behind, len(panes) - at + 3))
                self.assertEqual(echo_behind(ahead, taken(ahead, told)), told)
                right = echo(mirrored((panes, 0)), len(panes) - at)
                weights = (rooms[0], rooms[-1])
                self.assertEqual(from_both(told[:at], right, many=len(panes), weights=weights), (panes, 0))

    def test_two_halls_are_told_apart_as_their_rows_are(self):
        for rooms, wall in HALLS:
            for others, other_wall in HALLS:
                one, other = Hall(rooms, wall=wall), Hall(others, wall=other_wall)
                for hall in (one, other):
                    hall.cry("left", ONE)
                    hall.beat(31)
                place = told_apart(one.row(), other.row())
                heard = list(zip(one.heard("left"), other.heard("left")))
                unlike = [at for at, (here, there) in enumerate(heard) if here != there]
                self.assertEqual(unlike[0] if unlike else None, None if place is None else 2 * place)


class Numbers(unittest.TestCase):
    def test_a_row_or_cries_and_just_one_of_both(self):
        for rooms, wall, hall in histories():
            for numbers in (hall.heard("left")[:8], hall.heard("right")[:8]):
                word, told = found_back(numbers)
                self.assertIs(shows_row(numbers, told), word == "row")
                self.assertIs(shows_none(numbers, told), word == "none")
                if word == "none":
                    self.assertEqual(len(told), beginning(numbers) + 1)

    def test_what_may_come_next(self):
        for rooms, wall, hall in histories():
            row = hall.row()
            for many in range(4):
                numbers = echo(row, many)
                middle, half = (as_fraction(part) for part in next_of(numbers))
                for share, right in [(-1, True), (1, True), (Fraction(1, 3), True), (Fraction(101, 100), False)]:
                    more = numbers + [as_pair(middle + half * share)]
                    self.assertEqual(beginning(more), many + (right or half == 0))


class Texts(unittest.TestCase):
    def test_each_told_row_has_a_text(self):
        for rooms, wall, hall in histories():
            self.assertIs(is_row(hall.row()), True)
            self.assertEqual(row_in_text(row_text(hall.row())), hall.row())

    def test_each_told_pair_is_one(self):
        for rooms, wall, hall in histories():
            pair = pair_of(hall.row())
            self.assertIs(is_pair(pair), True)
            self.assertEqual(echo_in(pair, 9), echo(hall.row(), 9))

    def test_the_desk_does_as_a_hall(self):
        def text(number):
            return str(number[0]) if number[1] == 1 else f"{number[0]}/{number[1]}"
        for rooms, wall, hall in histories():
            rows = [" ".join(["hall"] + [text(weight) for weight in rooms] + ([f"wall {wall}"] if wall else []))]
            for word, *parts in hall.steps():
                if word == "beat":
                    rows += ["beat"] * parts[0]
                else:
                    rows.append(" ".join([word] + [part if word == "cry" and part in SIDES else text(part)
                                                   if isinstance(part, tuple) else str(part) for part in parts]))
            told = answers("\n".join(rows + ["ledger", "row"]))
            self.assertEqual(told[-2:], [" ".join(text(part) for part in hall.ledger()), row_text(hall.row())])
            heard = [answer for row, answer in zip(rows, told) if row == "beat"]
            both = zip(hall.heard("left"), hall.heard("right"))
            self.assertEqual(heard, [text(left) + " " + text(right) for left, right in both])


class Told(unittest.TestCase):
    def test_what_was_told_may_be_handed_in_again(self):
        # Numbers far beyond those that are handed in at first.
        for rooms, wall, hall in histories():
            if hall.beats():
                other = Hall(hall.rooms(), wall=wall)
                for number in hall.heard("left")[-5:] + list(hall.ledger()):
                    other.cry("left", number)
                other.change(0, tuple(map(abs, hall.ledger()[2] if hall.ledger()[2] != NOUGHT else ONE)))
                other.beat(3)
                do_deed(other, ("do", hall.steps()[:5]))
                self.assertIs(shows_record(wall, record_of(other)), True)
                self.assertEqual(row_in(pair_of(other.row())), trimmed(other.row()))
                self.assertEqual(row_in_text(row_text(other.row())), other.row())


if __name__ == "__main__":
    unittest.main()

import unittest

from echopanes.errors import NoRoom, Walled
from echopanes.hall import Hall
from echopanes.late import first_heard, parts_of, told_late
from plain_hall import PlainHall, plain_parts, plain_told_late
from sample_halls import (
    FREE_HALLS, HALLS, LONG_HALLS, SIDES, SIZES, WALLED_HALLS, WEIGHTS, asked, do_deed, drawn_history, hall_after,
)
from sample_rows import as_fraction, as_pair, kinds

NOUGHT, ONE = (0, 1), (1, 1)
# Of a hall with two inner rooms, each kind of deed, some as one, some taken back.
HISTORY = [
    ("cry", "left", ONE), ("beat", 2), ("change", 1, (5, 1)), ("turn",), ("cry", "left", (-1, 2)), ("beat",), ("undo",),
    ("undo",), ("do", [("cry", "left", (2, 3)), ("turn",), ("beat", 3), ("change", 2, (1, 7)), ("turn",), ("beat",)]),
    ("do", []), ("cry", "left", (3, 1)), ("cry", "left", (4, 1)), ("beat",), ("turn",), ("change", 1, (2, 1)), ("beat", 2),
    ("do", [("beat",), ("change", 9, ONE)]), ("cry", "left", (9, 1)),
]


def both(rooms, wall, deeds):
    """A Hall and a plain one through the same deeds."""
    hall, plain = Hall(rooms, wall=wall), PlainHall(rooms, wall)
    for deed in deeds:
        do_deed(hall, deed)
        plain.deed(deed)
    return hall, plain


def drawn_halls(many=25):
    for seed, (rooms, wall) in enumerate(HALLS * 2):
        yield both(rooms, wall, drawn_history(rooms, wall, 200 + seed, many))


def sides_of(hall):
    return SIDES if hall.row()[1] == 0 else SIDES[:1]


class ToldLate(unittest.TestCase):
    def test_by_hand(self):
        hall = Hall([(3, 1), (1, 1), (1, 2)])  # panes 1/2 and 1/3
        hall.cry("left", ONE)
        hall.beat(3)
        self.assertEqual(hall.heard("left"), [(1, 2), NOUGHT, (1, 4)])
        self.assertEqual(kinds(told_late(hall, 1, "left", (2, 1))), kinds(
            ([(3, 2), NOUGHT, (3, 4)], [NOUGHT, (6, 1), NOUGHT])))
        self.assertEqual(told_late(hall, 3, "left", (2, 1)), ([(1, 2), NOUGHT, (5, 4)], [NOUGHT, (2, 1), NOUGHT]))
        self.assertEqual(told_late(hall, 2, "right", (3, 1)), ([(1, 2), NOUGHT, (5, 4)], [NOUGHT, (1, 1), NOUGHT]))

    def test_at_each_beat_on_each_side(self):
        for hall, plain in drawn_halls():
            for beat in range(1, hall.beats() + 1):
                for side in sides_of(hall):
                    for size in [(1, 1), (-2, 3), (60, 59)][beat % 3:][:1]:
                        told = told_late(hall, beat, side, size)
                        self.assertEqual(kinds(told), kinds(plain_told_late(plain, beat, side, size)))

    def test_behind_each_kind_of_deed(self):
        for wall in (0, 1, -1):
            hall, plain = both([(1, 2), (5, 1), (7, 12), (1, 1)], wall, HISTORY)
            self.assertEqual(hall.beats(), 9)
            for beat in range(1, 10):
                for side in sides_of(hall):
                    told = told_late(hall, beat, side, (5, 3))
                    self.assertEqual(told, plain_told_late(plain, beat, side, (5, 3)))

    def test_a_size_of_nought_changes_nothing(self):
        for hall, plain in drawn_halls():
            for beat in range(1, hall.beats() + 1):
                for side in sides_of(hall):
                    self.assertEqual(told_late(hall, beat, side, NOUGHT), (hall.heard("left"), hall.heard("right")))

    def test_it_adds_just_its_own(self):
        for hall, plain in drawn_halls():
            for beat in range(1, hall.beats() + 1):
                for side in sides_of(hall):
                    one, twice = told_late(hall, beat, side, ONE), told_late(hall, beat, side, (2, 1))
                    for at, end in enumerate(SIDES):
                        sums = [2 * as_fraction(number) for number in one[at]]
                        least = [as_fraction(more) + as_fraction(none) for more, none in zip(twice[at], hall.heard(end))]
                        self.assertEqual(sums, least)

    def test_cried_in_time_it_is_heard_so(self):
        for seed, (rooms, wall) in enumerate(HALLS):
            deeds = [deed for deed in drawn_history(rooms, wall, 300 + seed) if deed[0] != "undo"]
            hall, beat = hall_after(rooms, wall, deeds), 1
            for at, deed in enumerate(deeds):
                if deed[0] == "beat":
                    timely = hall_after(rooms, wall, deeds[:at] + [("cry", "left", (7, 3))] + deeds[at:])
                    told = told_late(hall, beat, "left", (7, 3))
                    self.assertEqual(told, (timely.heard("left"), timely.heard("right")))
                beat = 1 + hall_after(rooms, wall, deeds[:at + 1]).beats()

    def test_of_a_twin_and_of_an_as_of(self):
        for hall, plain in drawn_halls():
            twin, stands = hall.twin(), plain.stands
            for beat in range(1, hall.beats() + 1):
                self.assertEqual(told_late(twin, beat, "left", ONE), told_late(hall, beat, "left", ONE))
            then = hall.as_of(hall.deeds() // 2)
            plain.stands = stands[:then.deeds()]
            for beat in range(1, then.beats() + 1):
                self.assertEqual(told_late(then, beat, "left", ONE), plain_told_late(plain, beat, "left", ONE))

    def test_the_hall_stays_as_it_was(self):
        for hall, plain in drawn_halls():
            before, twin = asked(hall), hall.twin()
            for beat in range(1, hall.beats() + 1):
                told_late(hall, beat, "left", (5, 1))
                with self.assertRaises(Walled):
                    told_late(Hall([ONE, ONE], wall=1), beat, "right", (5, 1))
            self.assertEqual((asked(hall), hall), (before, twin))

    def test_walled(self):
        for rooms, wall in WALLED_HALLS:
            hall = hall_after(rooms, wall, HISTORY)
            before = asked(hall)
            for beat in range(1, hall.beats() + 1):
                for size in (ONE, NOUGHT, (-3, 4)):
                    with self.assertRaises(Walled):
                        told_late(hall, beat, "right", size)
            self.assertEqual(asked(hall), before)

    def test_as_long_as_beats(self):
        for hall, plain in drawn_halls():
            if hall.beats():
                left, right = told_late(hall, 1, "left", ONE)
                self.assertEqual((len(left), len(right)), (hall.beats(), hall.beats()))

    def test_told_lists_are_the_askers_own(self):
        for hall, plain in drawn_halls():
            if hall.beats():
                left, right = told = told_late(hall, 1, "left", ONE)
                kept = (list(left), list(right))
                self.assertIsNot(left, right)
                before = asked(hall)
                left.clear()
                right.append(None)
                self.assertEqual(told_late(hall, 1, "left", ONE), kept)
                self.assertEqual(asked(hall), before)

    def test_by_names(self):
        hall = Hall([(3, 1), (1, 1), (1, 2)])
        hall.beat(2)
        self.assertEqual(told_late(size=ONE, side="left", beat=1, hall=hall), ([(1, 2), NOUGHT], [NOUGHT, (2, 1)]))

    def test_at_the_bounds(self):
        for rooms, wall in LONG_HALLS:
            deeds = [("do", [("cry", "left", SIZES[at % 6]), ("change", at % 13, WEIGHTS[at % 7]), ("beat",)])
                     for at in range(40)] + [("turn",)] * 20
            hall, plain = both(rooms, wall, deeds[:20])
            for deed in deeds[20:]:
                do_deed(hall, deed)
                plain.stands.append(list(deed[1]) if deed[0] == "do" else [deed])
            for beat in (1, 17, 40):
                self.assertEqual(told_late(hall, beat, "left", (59, 60)), plain_told_late(plain, beat, "left", (59, 60)))


class PartsOf(unittest.TestCase):
    def test_by_hand(self):
        hall = Hall([(3, 1), (1, 1), (1, 2)])
        self.assertEqual(kinds(parts_of(hall)), kinds([]))
        hall.cry("right", (3, 1))
        hall.cry("left", ONE)
        self.assertEqual(parts_of(hall), [])
        hall.beat()
        hall.cry("left", (2, 1))
        self.assertEqual(kinds(parts_of(hall)), kinds([
            (1, "right", ([NOUGHT], [(-1, 1)])), (1, "left", ([(1, 2)], [NOUGHT])),
        ]))
        hall.beat(2)
        hall.cry("left", (7, 1))
        self.assertEqual(parts_of(hall), [
            (1, "right", ([NOUGHT, (1, 1), NOUGHT], [(-1, 1), NOUGHT, (-4, 3)])),
            (1, "left", ([(1, 2), NOUGHT, (1, 4)], [NOUGHT, (2, 1), NOUGHT])),
            (2, "left", ([NOUGHT, (1, 1), NOUGHT], [NOUGHT, NOUGHT, (4, 1)])),
        ])

    def test_of_any_history(self):
        many = 0
        for hall, plain in drawn_halls(35):
            told = parts_of(hall)
            self.assertEqual(kinds(told), kinds(plain_parts(plain)))
            many += len(told)
        self.assertGreater(many, 60)

    def test_behind_each_kind_of_deed(self):
        for wall in (0, 1, -1):
            hall, plain = both([(1, 2), (5, 1), (7, 12), (1, 1)], wall, HISTORY)
            told = parts_of(hall)
            self.assertEqual(told, plain_parts(plain))
            # The cry that was undone and the one that waits are left out.
            self.assertEqual([(beat, side) for beat, side, heard in told], [(beat, "left") for beat in (1, 3, 7, 7)])

    def test_all_together_are_what_was_heard(self):
        for hall, plain in drawn_halls(35):
            for at, side in enumerate(SIDES):
                sums = [as_fraction(NOUGHT)] * hall.beats()
                for beat, cried, heard in parts_of(hall):
                    sums = [one + as_fraction(more) for one, more in zip(sums, heard[at])]
                self.assertEqual([as_pair(number) for number in sums], hall.heard(side))

    def test_a_cry_of_nought_is_one(self):
        hall = Hall([(3, 1), (1, 1)])
        hall.cry("left", NOUGHT)
        hall.beat(2)
        self.assertEqual(parts_of(hall), [(1, "left", ([NOUGHT] * 2, [NOUGHT] * 2))])

    def test_cries_that_come_to_nought_together_are_told_apart(self):
        hall = Hall([(3, 1), (1, 1)])
        hall.do([("cry", "left", ONE), ("cry", "left", (-1, 1)), ("beat",)])
        self.assertEqual(parts_of(hall), [
            (1, "left", ([(1, 2)], [(3, 2)])), (1, "left", ([(-1, 2)], [(-3, 2)])),
        ])

    def test_of_a_twin_and_of_an_as_of(self):
        for hall, plain in drawn_halls():
            self.assertEqual(parts_of(hall.twin()), parts_of(hall))
            stands = plain.stands
            for many in range(0, hall.deeds() + 1, 3):
                plain.stands = stands[:many]
                self.assertEqual(parts_of(hall.as_of(many)), plain_parts(plain))

    def test_the_hall_stays_as_it_was(self):
        for hall, plain in drawn_halls():
            before, twin = asked(hall), hall.twin()
            parts_of(hall)
            self.assertEqual((asked(hall), hall), (before, twin))

    def test_no_two_told_lists_are_one_and_the_same(self):
        for hall, plain in drawn_halls():
            told, kept = parts_of(hall), parts_of(hall)
            lists = [told, kept] + [numbers for part in told + kept for numbers in part[2]]
            self.assertEqual(len({id(numbers) for numbers in lists}), len(lists))
            for beat, side, (left, right) in told:
                left.append(None)
                right.clear()
            told.clear()
            self.assertEqual(parts_of(hall), kept)

    def test_by_names(self):
        self.assertEqual(parts_of(hall=Hall([(3, 1), (1, 1)])), [])


class FirstHeard(unittest.TestCase):
    def test_by_hand(self):
        hall = Hall([(3, 1), (1, 1), (1, 2), (5, 1)])
        self.assertEqual(kinds([first_heard(hall, room, "left") for room in range(4)]), kinds([1, 1, 2, 3]))
        self.assertEqual(kinds([first_heard(hall, room, "right") for room in range(4)]), kinds([3, 2, 1, 1]))
        hall = Hall([(3, 1), (1, 1), (1, 2), (5, 1)], wall=-1)
        self.assertEqual([first_heard(hall, room, "left") for room in range(4)], [1, 1, 2, 3])
        self.assertEqual([first_heard(hall, room, "right") for room in range(4)], [None] * 4)

    def test_of_one_pane(self):
        for side in SIDES:
            for room in (0, 1):
                self.assertEqual(first_heard(Hall([(3, 1), (1, 1)]), room, side), 1)

    def test_of_a_wall_alone_never(self):
        for wall in (1, -1):
            for side in SIDES:
                self.assertIsNone(first_heard(Hall([(3, 1)], wall=wall), 0, side))

    def test_no_room(self):
        for rooms, wall in HALLS + LONG_HALLS:
            hall = hall_after(rooms, wall, HISTORY[:4])
            before = asked(hall)
            for room in (-1, len(rooms), len(rooms) + 1, -len(rooms), 10 ** 20):
                for side in SIDES:
                    with self.assertRaises(NoRoom) as caught:
                        first_heard(hall, room, side)
                    self.assertEqual(kinds(caught.exception.room), kinds(room))
            self.assertEqual(asked(hall), before)

    def heard_from_now_on(self, hall, deeds, beats):
        """What is heard on both sides behind these deeds, by as many beats."""
        twin = hall.twin()
        for deed in deeds:
            do_deed(twin, deed)
        return list(zip(*twin.beat(beats)))

    def waves_for(self, rooms, wall):
        """Halls of these rooms with waves that go in all rooms both ways."""
        for seed in range(3):
            hall = Hall(rooms, wall=wall)
            for beat in range(len(rooms) + 2):
                hall.cry("left", SIZES[(seed + beat) % 3])
                if wall == 0:
                    hall.cry("right", SIZES[(seed + 2 * beat + 1) % 3])
                hall.beat()
            hall.cry("left", (17, 5))
            yield hall

    def test_a_change_is_heard_just_then_at_the_earliest(self):
        for rooms, wall in HALLS:
            for room in range(len(rooms)):
                earliest = {side: None for side in SIDES}
                for hall in self.waves_for(rooms, wall):
                    beats = len(rooms) + 3
                    without = self.heard_from_now_on(hall, [], beats)
                    changed = self.heard_from_now_on(hall, [("change", room, (11, 3))], beats)
                    for at, side in enumerate(SIDES):
                        places = [k + 1 for k in range(beats) if without[at][k] != changed[at][k]]
                        known = [earliest[side]] if earliest[side] else []
                        earliest[side] = min(places[:1] + known, default=None)
                for side in SIDES:
                    self.assertEqual(first_heard(hall, room, side), earliest[side], (rooms, wall, room, side))

    def test_changes_that_wait_and_turns_done_do_not_count(self):
        hall = Hall([(3, 1), (1, 1), (1, 2), (5, 1)])
        hall.change(1, (7, 1))
        hall.cry("left", ONE)
        hall.beat(2)
        hall.turn()
        hall.change(2, (7, 1))
        self.assertEqual([first_heard(hall, room, "left") for room in range(4)], [1, 1, 2, 3])

    def test_twelve_panes(self):
        for rooms, wall in LONG_HALLS:
            hall = Hall(rooms, wall=wall)
            self.assertEqual([first_heard(hall, room, "left") for room in range(13)], [1] + list(range(1, 13)))
            right = [None] * 13 if wall else list(range(12, 0, -1)) + [1]
            self.assertEqual([first_heard(hall, room, "right") for room in range(13)], right)

    def test_the_hall_stays_as_it_was(self):
        for rooms, wall in FREE_HALLS:
            hall = hall_after(rooms, wall, HISTORY)
            before = asked(hall)
            first_heard(hall, 0, "right")
            self.assertEqual(asked(hall), before)

    def test_by_names(self):
        self.assertEqual(first_heard(side="right", room=0, hall=Hall([(3, 1), (1, 1), (1, 2)])), 2)


if __name__ == "__main__":
    unittest.main()

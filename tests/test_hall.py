import unittest
from fractions import Fraction

from echopanes.errors import NoPane, NoRoom, Walled
from echopanes.hall import Hall
from echopanes.rooms import row_of
from echopanes.waves import Waves
from plain_hall import PlainHall
from sample_halls import (
    FREE_HALLS, HALLS, LONG_HALLS, SIDES, WALLED_HALLS, WEIGHTS, asked, do_deed, drawn_history, hall_after,
)
from sample_rows import as_fraction, as_pair, kinds

NOUGHT, ONE = (0, 1), (1, 1)


def without(told, *names):
    return {name: told[name] for name in told if name not in names}


def is_even(ledger):
    cried, work, heard, on_way = (as_fraction(part) for part in ledger)
    return cried + work == heard + on_way


class Made(unittest.TestCase):
    def test_at_first_all_is_still(self):
        for rooms, wall in HALLS + LONG_HALLS:
            hall = Hall(rooms, wall=wall)
            between = len(rooms) - 2 + (wall != 0)
            self.assertEqual(kinds(asked(hall)), kinds({
                "rooms": rooms, "row": row_of(rooms, wall=wall), "on_way": [(NOUGHT, NOUGHT)] * between,
                "left": [], "right": [], "beats": 0, "ledger": (NOUGHT,) * 4, "deeds": 0, "log": [],
            }))
            self.assertEqual(len(hall), 0)
            self.assertIs(bool(hall), False)

    def test_no_pane(self):
        for weight in WEIGHTS:
            for make in (lambda: Hall([weight]), lambda: Hall((weight,)), lambda: Hall([weight], wall=0)):
                with self.assertRaises(NoPane):
                    make()

    def test_one_room_and_a_wall_is_enough(self):
        for wall in (1, -1):
            self.assertEqual(Hall([(5, 7)], wall=wall).row(), ((), wall))

    def test_rooms_as_a_tuple(self):
        for rooms, wall in HALLS:
            hall = Hall(tuple(rooms), wall=wall)
            self.assertEqual(kinds(hall.rooms()), kinds(list(rooms)))
            self.assertEqual(hall, Hall(rooms, wall=wall))

    def test_by_names(self):
        self.assertEqual(Hall(wall=1, rooms=[(1, 1), (1, 3)]), Hall([(1, 1), (1, 3)], wall=1))
        self.assertEqual(Hall(rooms=[(1, 1), (1, 3)]), Hall([(1, 1), (1, 3)], wall=0))
        with self.assertRaises(TypeError):
            Hall([(1, 1), (1, 3)], 1)

    def test_the_list_of_rooms_is_not_kept(self):
        rooms = [(1, 1), (1, 3), (2, 1)]
        hall, other = Hall(rooms), Hall(list(rooms))
        rooms[1] = (12, 1)
        rooms.append((1, 1))
        self.assertEqual(hall, other)
        hall.change(1, (5, 1))
        hall.beat()
        self.assertEqual(rooms, [(1, 1), (12, 1), (2, 1), (1, 1)])

    def test_methods_stand_in_the_class(self):
        names = "cry change beat turn do undo rooms row on_way heard beats ledger deeds as_of twin log"
        for name in names.split() + ["__init__", "__eq__", "__len__"]:
            self.assertIn(name, vars(Hall))


class Deeds(unittest.TestCase):
    def test_by_hand(self):
        hall = Hall([(3, 1), (1, 1), (1, 2)])  # panes 1/2 and 1/3
        self.assertIsNone(hall.cry("left", ONE))
        self.assertEqual(kinds(hall.beat()), kinds([((1, 2), NOUGHT)]))
        self.assertEqual(hall.ledger(), ((3, 1), NOUGHT, (3, 4), (9, 4)))
        self.assertIsNone(hall.change(1, (2, 1)))
        self.assertEqual(hall.rooms(), [(3, 1), (1, 1), (1, 2)])
        self.assertEqual(hall.row(), (((1, 2), (1, 3)), 0))
        self.assertEqual(hall.ledger(), ((3, 1), NOUGHT, (3, 4), (9, 4)))
        # The panes are 1/5 and 3/5 now, and 3/2 comes to the second one.
        self.assertEqual(hall.beat(), [(NOUGHT, (12, 5))])
        self.assertEqual(hall.rooms(), [(3, 1), (2, 1), (1, 2)])
        self.assertEqual(hall.row(), (((1, 5), (3, 5)), 0))
        self.assertEqual(hall.on_way(), [(NOUGHT, (9, 10))])
        self.assertEqual(kinds(hall.ledger()), kinds(((3, 1), (9, 4), (363, 100), (81, 50))))
        self.assertIsNone(hall.turn())
        self.assertEqual(hall.on_way(), [((9, 10), NOUGHT)])
        self.assertEqual((hall.deeds(), hall.beats(), len(hall)), (5, 2, 2))
        self.assertEqual(hall.heard("left"), [(1, 2), NOUGHT])
        self.assertEqual(hall.heard("right"), [NOUGHT, (12, 5)])

    def test_a_wall_alone(self):
        for wall in (1, -1):
            hall = Hall([(5, 7)], wall=wall)
            hall.cry("left", (3, 2))
            hall.change(0, (2, 1))
            self.assertEqual(hall.beat(2), [((3 * wall, 2), NOUGHT), (NOUGHT, NOUGHT)])
            self.assertEqual(hall.ledger(), ((9, 2), NOUGHT, (9, 2), NOUGHT))
            self.assertEqual((hall.on_way(), hall.rooms()), ([], [(2, 1)]))

    def test_each_ask_behind_each_deed(self):
        for seed, (rooms, wall) in enumerate(HALLS * 3):
            hall, plain = Hall(rooms, wall=wall), PlainHall(rooms, wall)
            for deed in drawn_history(rooms, wall, seed):
                told, right = do_deed(hall, deed), plain.deed(deed)
                self.assertEqual(kinds(told), kinds(right), (rooms, wall, deed))
                self.assertEqual(kinds(asked(hall)), kinds(plain.asked()), (rooms, wall, deed))
                self.assertTrue(is_even(hall.ledger()))
                self.assertEqual(len(hall), hall.beats())
                self.assertIs(bool(hall), hall.beats() > 0)

    def test_forty_beats_sixty_deeds_twelve_panes(self):
        for rooms, wall in LONG_HALLS:
            hall, plain = Hall(rooms, wall=wall), PlainHall(rooms, wall)
            for at in range(20):
                for deed in [("cry", "left", as_pair(Fraction(60, 59 - at))), ("change", at % 13, WEIGHTS[at % 7]), ("beat", 2)]:
                    do_deed(hall, deed)
                    plain.stands.append([deed])
                self.assertTrue(is_even(hall.ledger()))
            self.assertEqual((hall.beats(), hall.deeds()), (40, 60))
            self.assertEqual(without(asked(hall), "log"), without(plain.asked(), "log"))

    def test_beside_waves_where_no_room_is_changed(self):
        for rooms, wall in HALLS:
            hall, waves = Hall(rooms, wall=wall), Waves(row_of(rooms, wall=wall), first=rooms[0])
            for both in (hall, waves):
                both.cry("left", (2, 3))
                both.cry("left", (1, 5))
                if wall == 0:
                    both.cry("right", (-1, 7))
            self.assertEqual(hall.beat(3), waves.beat(3))
            hall.turn()
            waves.turn()
            self.assertEqual(hall.beat(), waves.beat())
            self.assertEqual((hall.on_way(), hall.row()), (waves.on_way(), waves.row()))
            self.assertEqual([hall.heard(side) for side in SIDES], [waves.heard(side) for side in SIDES])
            self.assertEqual(hall.ledger()[3], waves.squares())

    def test_several_cries_ahead_of_one_beat_come_together(self):
        for rooms, wall in HALLS:
            one, other = Hall(rooms, wall=wall), Hall(rooms, wall=wall)
            for size in [(1, 2), (1, 3), (-5, 7)]:
                one.cry("left", size)
            other.cry("left", (5, 42))
            self.assertEqual(one, other)
            self.assertEqual(one.beat(3), other.beat(3))
            self.assertEqual(one.ledger(), other.ledger())

    def test_cried_is_weighed_by_the_rooms_at_the_beat(self):
        hall = Hall([(1, 1), (1, 1)])
        hall.cry("left", (2, 1))
        hall.cry("right", (3, 1))
        hall.change(0, (5, 1))
        hall.change(1, (7, 1))
        hall.beat()
        self.assertEqual(hall.ledger(), ((83, 1), NOUGHT, (83, 1), NOUGHT))
        hall.change(0, (1, 1))
        hall.beat()
        self.assertEqual(hall.ledger()[0], (83, 1))

    def test_of_several_changes_of_a_room_the_last_one_counts(self):
        for rooms, wall in HALLS:
            for room in range(len(rooms)):
                one, other = Hall(rooms, wall=wall), Hall(rooms, wall=wall)
                for hall in (one, other):
                    hall.cry("left", ONE)
                    hall.beat(2)
                for weight in WEIGHTS:
                    one.change(room, weight)
                other.change(room, WEIGHTS[-1])
                self.assertEqual(one, other)
                self.assertEqual(one.beat(3), other.beat(3))
                self.assertEqual(one.ledger(), other.ledger())
                self.assertEqual(one.rooms()[room], WEIGHTS[-1])

    def test_a_change_is_made_once(self):
        hall = Hall([(1, 1), (2, 1), (3, 1)])
        hall.change(1, (5, 1))
        hall.beat(2)
        hall.change(2, (7, 1))
        hall.beat()
        self.assertEqual(hall.rooms(), [(1, 1), (5, 1), (7, 1)])

    def test_a_change_of_an_outer_room_is_no_work(self):
        for rooms, wall in HALLS:
            hall = Hall(rooms, wall=wall)
            hall.cry("left", ONE)
            hall.beat(3)
            hall.change(0, (11, 3))
            if wall == 0:
                hall.change(len(rooms) - 1, (11, 5))
            hall.beat()
            self.assertEqual(hall.ledger()[1], NOUGHT)

    def test_a_change_ahead_of_a_wall_is_work(self):
        hall = Hall([(1, 1), (1, 1)], wall=1)
        hall.cry("left", (3, 1))
        hall.beat()
        hall.change(1, (3, 1))
        hall.beat()
        self.assertEqual(hall.ledger(), ((9, 1), (18, 1), NOUGHT, (27, 1)))

    def test_a_change_to_the_weight_that_it_is(self):
        for rooms, wall in HALLS:
            one, other = Hall(rooms, wall=wall), Hall(rooms, wall=wall)
            for hall in (one, other):
                hall.cry("left", (3, 5))
                hall.beat(2)
            for room, weight in enumerate(rooms):
                one.change(room, weight)
            self.assertNotEqual(one, other)
            self.assertEqual(one.beat(2), other.beat(2))
            self.assertEqual((one, one.ledger()), (other, other.ledger()))

    def test_changes_wait_over_a_turn(self):
        hall = Hall([(1, 1), (2, 1), (3, 1)])
        hall.cry("left", ONE)
        hall.beat()
        hall.change(1, (5, 1))
        hall.turn()
        self.assertEqual(hall.rooms(), [(1, 1), (2, 1), (3, 1)])
        hall.beat()
        self.assertEqual(hall.rooms(), [(1, 1), (5, 1), (3, 1)])

    def test_on_a_walls_right_nought_is_heard(self):
        for rooms, wall in WALLED_HALLS:
            hall = Hall(rooms, wall=wall)
            hall.cry("left", ONE)
            self.assertEqual([right for left, right in hall.beat(4)], [NOUGHT] * 4)
            self.assertEqual(hall.heard("right"), [NOUGHT] * 4)

    def test_by_names(self):
        hall = Hall([(1, 1), (2, 1), (3, 1)])
        self.assertIsNone(hall.cry(size=ONE, side="left"))
        self.assertIsNone(hall.change(weight=(5, 1), room=1))
        self.assertEqual(len(hall.beat(many=2)), 2)
        self.assertEqual(hall.do(deeds=[("beat", 3), ("turn",)])[1], None)
        self.assertEqual(len(hall.heard(side="right")), 5)
        self.assertEqual(hall.as_of(many=4), hall)
        one = Hall([(1, 1), (2, 1), (3, 1)])
        one.do([("cry", "left", ONE), ("change", 1, (5, 1)), ("beat", 2), ("beat", 3), ("turn",)])
        self.assertEqual(one, hall)


class Home(unittest.TestCase):
    def gone(self, rooms, wall, beats):
        """A hall after so many beats with cries and changes, what was cried at each, and the rooms then."""
        hall, cries, weights = Hall(rooms, wall=wall), [], []
        for at in range(beats):
            left, right = (at + 1, 7), ((3 - at, 5) if wall == 0 else NOUGHT)
            left, right = as_pair(as_fraction(left)), as_pair(as_fraction(right))
            hall.cry("left", left)
            if wall == 0:
                hall.cry("right", right)
            for room in range(at % 3, len(rooms), 2):
                hall.change(room, WEIGHTS[(at + room) % 7])
            hall.beat()
            cries.append((left, right))
            weights.append(hall.rooms())
        return hall, cries, weights

    def test_turned_about_all_comes_home_with_the_rooms_changed_back(self):
        for rooms, wall in HALLS + LONG_HALLS:
            hall, cries, weights = self.gone(rooms, wall, 9)
            heard = list(zip(hall.heard("left"), hall.heard("right")))
            hall.turn()
            told = []
            for (left, right), then in zip(reversed(heard), reversed(weights)):
                for room, weight in enumerate(then):
                    hall.change(room, weight)
                hall.cry("left", left)
                if wall == 0:
                    hall.cry("right", right)
                told += hall.beat()
                self.assertTrue(is_even(hall.ledger()))
            self.assertEqual(told, cries[::-1])
            self.assertEqual(set(hall.on_way()) - {(NOUGHT, NOUGHT)}, set())

    def test_with_rooms_not_changed_back_it_does_not(self):
        hall, cries, weights = self.gone([(1, 2), (5, 1), (7, 12), (1, 1)], 0, 5)
        heard = list(zip(hall.heard("left"), hall.heard("right")))
        hall.turn()
        told = []
        for left, right in reversed(heard):
            hall.cry("left", left)
            hall.cry("right", right)
            told += hall.beat()
        self.assertNotEqual(told, cries[::-1])

    def test_the_work_home_is_the_work_there_less_itself_from_0(self):
        hall, cries, weights = self.gone([(1, 2), (5, 1), (7, 12), (1, 1)], 1, 7)
        there = as_fraction(hall.ledger()[1])
        heard = hall.heard("left")
        hall.turn()
        for left, then in zip(reversed(heard), reversed(weights)):
            hall.do([("change", room, weight) for room, weight in enumerate(then)])
            hall.cry("left", left)
            hall.beat()
        self.assertNotEqual(there, 0)
        self.assertEqual(as_fraction(hall.ledger()[1]), 0)

    def test_met_from_the_other_end(self):
        for rooms, wall in FREE_HALLS:
            one, other = Hall(rooms), Hall(rooms[::-1])
            for at in range(8):
                room, weight = (at * 2) % len(rooms), WEIGHTS[at % 7]
                one.change(room, weight)
                other.change(len(rooms) - 1 - room, weight)
                for side, far, size in [("left", "right", (at + 1, 1)), ("right", "left", (1, 2 + at))]:
                    one.cry(side, size)
                    other.cry(far, size)
                self.assertEqual(one.beat(), [pair[::-1] for pair in other.beat()])
            self.assertEqual(one.on_way(), [pair[::-1] for pair in reversed(other.on_way())])
            self.assertEqual(one.ledger(), other.ledger())

    def test_heard_through_is_alike_from_either_end_weighed_by_the_outer_rooms(self):
        for rooms, wall in FREE_HALLS:
            one, other = Hall(rooms), Hall(rooms)
            one.cry("left", ONE)
            other.cry("right", ONE)
            one.beat(12)
            other.beat(12)
            through = [as_fraction(number) * as_fraction(rooms[-1]) for number in one.heard("right")]
            back = [as_fraction(number) * as_fraction(rooms[0]) for number in other.heard("left")]
            self.assertEqual(through, back)


class Refused(unittest.TestCase):
    def check_nothing_but_the_log(self, hall, act, kind, log):
        before, twin = asked(hall), hall.twin()
        with self.assertRaises(kind) as caught:
            act()
        after = asked(hall)
        self.assertEqual(without(after, "log"), without(before, "log"))
        self.assertEqual(after["log"], before["log"] + log)
        self.assertEqual(hall, twin)
        return caught.exception

    def both_ends(self, *words):
        return [(end, word) for word in words for end in ("in", "out")]

    def halls(self, halls):
        for seed, (rooms, wall) in enumerate(halls):
            yield rooms, hall_after(rooms, wall, drawn_history(rooms, wall, 100 + seed))

    def test_a_cry_at_a_wall(self):
        for rooms, hall in self.halls(WALLED_HALLS):
            for act in (lambda: hall.cry("right", ONE), lambda: hall.cry(size=NOUGHT, side="right")):
                self.check_nothing_but_the_log(hall, act, Walled, self.both_ends("cry"))

    def test_a_change_of_no_room(self):
        for rooms, hall in self.halls(HALLS):
            for room in (-1, -2, len(rooms), len(rooms) + 1, 10 ** 20, -len(rooms)):
                why = self.check_nothing_but_the_log(
                    hall, lambda: hall.change(room, (1, 1)), NoRoom, self.both_ends("change"))
                self.assertEqual(kinds(why.room), kinds(room))

    def test_the_first_and_the_last_room_are_rooms(self):
        for rooms, hall in self.halls(HALLS):
            hall.change(0, (3, 1))
            hall.change(len(rooms) - 1, (3, 2))
            hall.beat()
            self.assertEqual(hall.rooms()[-1], (3, 2))
            self.assertEqual(hall.rooms()[0], (3, 1) if len(rooms) > 1 else (3, 2))

    def test_a_do_with_one_that_is_refused(self):
        right = [("cry", "left", ONE), ("change", 0, (2, 1)), ("beat", 2), ("turn",), ("beat",)]
        for rooms, hall in self.halls(HALLS):
            wrong = [(("change", len(rooms), (1, 1)), NoRoom)]
            if hall.row()[1] != 0:
                wrong.append((("cry", "right", ONE), Walled))
            for at in range(len(right) + 1):
                for deed, kind in wrong:
                    deeds = right[:at] + [deed] + right[at:]
                    words = [deed[0] for deed in deeds[:at + 1]]
                    log = [("in", "do")] + self.both_ends(*words) + [("out", "do")]
                    why = self.check_nothing_but_the_log(hall, lambda: hall.do(deeds), kind, log)
                    if kind is NoRoom:
                        self.assertEqual(why.room, len(rooms))

    def test_of_several_refused_in_a_do_the_first_goes(self):
        hall = Hall([(1, 1), (2, 1)], wall=1)
        with self.assertRaises(Walled):
            hall.do([("cry", "right", ONE), ("change", 9, ONE)])
        with self.assertRaises(NoRoom) as caught:
            hall.do([("change", 9, ONE), ("change", 8, ONE), ("cry", "right", ONE)])
        self.assertEqual(caught.exception.room, 9)

    def test_what_is_done_behind_a_refusal_goes_as_if_it_had_not_been(self):
        for rooms, hall in self.halls(HALLS):
            twin = hall.twin()
            for deeds in ([("cry", "left", (7, 1)), ("change", 0, (7, 1)), ("beat",), ("change", -1, ONE)],
                          [("turn",), ("change", -1, ONE)]):
                with self.assertRaises(NoRoom):
                    hall.do(deeds)
            self.assertEqual(hall.beat(3), twin.beat(3))
            self.assertEqual((hall, hall.ledger()), (twin, twin.ledger()))


if __name__ == "__main__":
    unittest.main()

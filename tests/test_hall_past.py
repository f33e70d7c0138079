import unittest
from unittest import mock

from echopanes.errors import NoDeed, NoRoom, Walled
from echopanes.hall import Hall
from echopanes.rooms import row_of
from echopanes.waves import Waves
from plain_hall import PlainHall
from sample_halls import FREE_HALLS, HALLS, WALLED_HALLS, asked, do_deed, drawn_history, hall_after
from sample_rows import kinds

NOUGHT, ONE = (0, 1), (1, 1)

# Each kind of deed, by itself and as one with others; none of them is refused.
STEPS = [
    ("cry", "left", (1, 2)), ("change", 0, (5, 3)), ("beat",), ("turn",), ("do", []), ("cry", "left", (2, 1)),
    ("do", [("cry", "left", ONE), ("beat", 2), ("change", 0, (1, 7)), ("turn",)]), ("beat", 3), ("change", 0, (1, 7)),
    ("do", [("beat",)]), ("turn",), ("cry", "left", NOUGHT),
]


def stepped(rooms, wall, many=len(STEPS)):
    return hall_after(rooms, wall, STEPS[:many])


def unlogged(hall):
    told = asked(hall)
    del told["log"]
    return told


class Together(unittest.TestCase):
    def test_what_a_do_tells(self):
        hall = Hall([(3, 1), (1, 1), (1, 2)])
        told = hall.do([("cry", "left", ONE), ("beat", 2), ("turn",), ("change", 1, (2, 1)), ("beat",), ("beat", 1)])
        other = Hall([(3, 1), (1, 1), (1, 2)])
        other.cry("left", ONE)
        first = other.beat(2)
        other.turn()
        other.change(1, (2, 1))
        self.assertEqual(kinds(told), kinds([None, first, None, None, other.beat(), other.beat()]))
        self.assertEqual(hall, other)
        self.assertEqual((hall.deeds(), other.deeds()), (1, 6))

    def test_of_none(self):
        for rooms, wall in HALLS:
            hall = stepped(rooms, wall)
            before, deeds = hall.twin(), hall.deeds()
            self.assertEqual(kinds(hall.do([])), kinds([]))
            self.assertEqual(hall, before)
            self.assertEqual(hall.deeds(), deeds + 1)
            self.assertIs(hall.undo(), True)
            self.assertEqual((hall, hall.deeds()), (before, deeds))

    def test_deeds_as_a_tuple(self):
        for deeds in [[("cry", "left", ONE), ("beat", 2)], []]:
            one, other = Hall([(1, 1), (2, 1)]), Hall([(1, 1), (2, 1)])
            self.assertEqual(kinds(one.do(tuple(deeds))), kinds(other.do(deeds)))
            self.assertEqual(one, other)

    def test_the_list_handed_in_is_neither_changed_nor_kept(self):
        deeds = [("cry", "left", ONE), ("change", 1, (5, 1)), ("beat", 2)]
        hall, other = Hall([(1, 1), (2, 1), (3, 1)]), Hall([(1, 1), (2, 1), (3, 1)])
        hall.do(deeds)
        self.assertEqual(deeds, [("cry", "left", ONE), ("change", 1, (5, 1)), ("beat", 2)])
        other.do(list(deeds))
        deeds[0] = ("cry", "left", (9, 1))
        deeds.append(("turn",))
        for both in (hall, other):
            both.beat()
            both.undo()
        self.assertEqual((hall, hall.as_of(1), hall.twin()), (other, other.as_of(1), other.twin()))

    def test_beat_with_its_argument_and_without(self):
        for deeds in ([("beat",), ("beat",)], [("beat", 2)], [("beat", 1), ("beat",)]):
            hall = Hall([(1, 1), (2, 1)])
            hall.cry("left", ONE)
            told = hall.do(deeds)
            self.assertEqual(sum(told, []), [((-1, 3), (2, 3)), (NOUGHT, NOUGHT)])


class Undone(unittest.TestCase):
    def test_there_is_none(self):
        for rooms, wall in HALLS:
            hall = Hall(rooms, wall=wall)
            for many in range(3):
                self.assertIs(hall.undo(), False)
            self.assertEqual(hall, Hall(rooms, wall=wall))
            self.assertEqual((hall.deeds(), hall.beats()), (0, 0))

    def test_each_kind_of_deed_one_by_one(self):
        for rooms, wall in HALLS:
            hall = stepped(rooms, wall)
            for many in reversed(range(len(STEPS))):
                self.assertIs(hall.undo(), True)
                other = stepped(rooms, wall, many)
                self.assertEqual(unlogged(hall), unlogged(other))
                self.assertEqual(hall, other)
                self.assertEqual(hall.deeds(), many)
            self.assertIs(hall.undo(), False)

    def test_done_anew_it_goes_as_if_it_had_not_been_undone(self):
        for rooms, wall in HALLS:
            for many in range(len(STEPS)):
                hall, other = stepped(rooms, wall, many), stepped(rooms, wall, many)
                for deed in STEPS[many:]:
                    do_deed(hall, deed)
                for deed in STEPS[many:]:
                    hall.undo()
                for deed in STEPS[many:]:
                    self.assertEqual(do_deed(hall, deed), do_deed(other, deed))
                self.assertEqual(unlogged(hall), unlogged(other))

    def test_a_do_is_one(self):
        hall = Hall([(1, 1), (2, 1), (3, 1)])
        hall.do([("cry", "left", ONE), ("beat", 3), ("change", 2, (5, 1)), ("beat",)])
        self.assertEqual((hall.deeds(), hall.beats()), (1, 4))
        self.assertIs(hall.undo(), True)
        self.assertEqual(hall, Hall([(1, 1), (2, 1), (3, 1)]))
        self.assertIs(hall.undo(), False)

    def test_refused_ones_are_passed_over(self):
        hall = Hall([(1, 1), (2, 1)], wall=1)
        hall.cry("left", ONE)
        for act in (lambda: hall.cry("right", ONE), lambda: hall.do([("beat",), ("cry", "right", ONE)])):
            with self.assertRaises(Walled):
                act()
        with self.assertRaises(NoRoom):
            hall.change(2, ONE)
        self.assertEqual(hall.deeds(), 1)
        self.assertIs(hall.undo(), True)
        self.assertEqual(hall, Hall([(1, 1), (2, 1)], wall=1))

    def test_a_change_that_waits_is_taken_back_to_the_one_ahead(self):
        hall = Hall([(1, 1), (2, 1)])
        hall.change(1, (5, 1))
        twin = hall.twin()
        hall.change(1, (7, 1))
        hall.undo()
        self.assertEqual(hall, twin)
        hall.beat()
        self.assertEqual(hall.rooms(), [(1, 1), (5, 1)])


class AsOf(unittest.TestCase):
    def test_each_number_of_deeds(self):
        for rooms, wall in HALLS:
            hall = stepped(rooms, wall)
            before = asked(hall)
            for many in range(len(STEPS) + 1):
                then, other = hall.as_of(many), stepped(rooms, wall, many)
                self.assertIsInstance(then, Hall)
                self.assertEqual(unlogged(then), unlogged(other))
                self.assertEqual(then, other)
                self.assertEqual(then.deeds(), many)
                self.assertEqual(then.log(), [])
            self.assertEqual(asked(hall), before)

    def test_what_can_be_taken_back_there(self):
        for rooms, wall in HALLS[::2]:
            hall = stepped(rooms, wall)
            for many in range(len(STEPS) + 1):
                then = hall.as_of(many)
                for left in reversed(range(many)):
                    self.assertIs(then.undo(), True)
                    self.assertEqual(unlogged(then), unlogged(stepped(rooms, wall, left)))
                self.assertIs(then.undo(), False)
            self.assertEqual(unlogged(hall), unlogged(stepped(rooms, wall)))

    def test_each_goes_on_by_itself(self):
        for rooms, wall in HALLS:
            hall = stepped(rooms, wall)
            for many in (0, 3, 7, len(STEPS)):
                then, other = hall.as_of(many), stepped(rooms, wall, many)
                before = asked(hall)
                for deed in drawn_history(rooms, wall, many):
                    self.assertEqual(do_deed(then, deed), do_deed(other, deed))
                self.assertEqual(asked(then), {**asked(other), "log": other.log()[len(stepped(rooms, wall, many).log()):]})
                self.assertEqual(asked(hall), before)
            then = hall.twin()
            before = asked(then)
            for deed in drawn_history(rooms, wall, 77):
                do_deed(hall, deed)
            self.assertEqual(asked(then), before)

    def test_undone_here_it_still_stands_there(self):
        for rooms, wall in HALLS:
            hall = stepped(rooms, wall)
            then, before = hall.as_of(7), unlogged(stepped(rooms, wall, 7))
            while hall.undo():
                pass
            self.assertEqual(unlogged(then), before)
            self.assertEqual(unlogged(then.as_of(3)), unlogged(stepped(rooms, wall, 3)))

    def test_no_deed(self):
        for rooms, wall in HALLS:
            for many in (0, 1, 5, len(STEPS)):
                hall = stepped(rooms, wall, many)
                before = asked(hall)
                for wrong in (-1, many + 1, -2, many + 2, 10 ** 20, -10 ** 20):
                    with self.assertRaises(NoDeed) as caught:
                        hall.as_of(wrong)
                    self.assertEqual(kinds(caught.exception.many), kinds(wrong))
                self.assertEqual(asked(hall), before)

    def test_of_undone_and_refused_ones_there_are_none(self):
        hall = Hall([(1, 1), (2, 1)], wall=1)
        hall.beat()
        hall.turn()
        hall.undo()
        do_deed(hall, ("cry", "right", ONE))
        self.assertEqual(hall.as_of(1), hall)
        with self.assertRaises(NoDeed):
            hall.as_of(2)

    def test_of_a_hall_without_deeds(self):
        for rooms, wall in HALLS:
            hall = Hall(rooms, wall=wall)
            for other in (hall.twin(), hall.as_of(0)):
                self.assertEqual((other, asked(other)), (hall, asked(hall)))
                other.beat()
                self.assertNotEqual(other, hall)
            self.assertEqual(hall, Hall(rooms, wall=wall))

    def test_twin_is_as_of_all(self):
        for seed, (rooms, wall) in enumerate(HALLS):
            hall = hall_after(rooms, wall, drawn_history(rooms, wall, seed))
            twin = hall.twin()
            self.assertIsNot(twin, hall)
            self.assertEqual(twin, hall)
            self.assertEqual(unlogged(twin), unlogged(hall))
            self.assertEqual(twin.log(), [])
            while hall.deeds():
                self.assertEqual((twin.undo(), twin), (hall.undo(), hall))

    def test_in_any_history(self):
        for seed, (rooms, wall) in enumerate(HALLS * 2):
            hall, plain = Hall(rooms, wall=wall), PlainHall(rooms, wall)
            for deed in drawn_history(rooms, wall, 50 + seed):
                do_deed(hall, deed)
                plain.deed(deed)
            stands = plain.stands
            for many in range(hall.deeds() + 1):
                plain.stands, plain.told_log = stands[:many], []
                self.assertEqual(asked(hall.as_of(many)), plain.asked())


class Log(unittest.TestCase):
    def test_by_hand(self):
        hall = Hall([(1, 1), (2, 1)], wall=-1)
        self.assertEqual(kinds(hall.log()), kinds([]))
        hall.cry("left", ONE)
        self.assertEqual(kinds(hall.log()), kinds([("in", "cry"), ("out", "cry")]))
        hall.do([("beat", 2), ("turn",)])
        with self.assertRaises(Walled):
            hall.do([("change", 0, ONE), ("cry", "right", ONE), ("beat",)])
        hall.undo()
        with self.assertRaises(NoRoom):
            hall.change(5, ONE)
        hall.beat(3)
        hall.do([])
        hall.turn()
        self.assertEqual(hall.log(), [
            ("in", "cry"), ("out", "cry"),
            ("in", "do"), ("in", "beat"), ("out", "beat"), ("in", "turn"), ("out", "turn"), ("out", "do"),
            ("in", "do"), ("in", "change"), ("out", "change"), ("in", "cry"), ("out", "cry"), ("out", "do"),
            ("in", "undo"), ("out", "undo"), ("in", "change"), ("out", "change"), ("in", "beat"), ("out", "beat"),
            ("in", "do"), ("out", "do"), ("in", "turn"), ("out", "turn"),
        ])

    def test_an_undo_that_finds_none_is_logged(self):
        hall = Hall([(1, 1), (2, 1)])
        hall.undo()
        self.assertEqual(hall.log(), [("in", "undo"), ("out", "undo")])

    def test_asks_are_not_logged(self):
        for rooms, wall in HALLS:
            hall = stepped(rooms, wall)
            before = hall.log()
            asked(hall)
            hall.as_of(2)
            hall.twin()
            len(hall)
            hall == hall.twin()
            do_deed(hall.twin(), ("beat",))
            with self.assertRaises(NoDeed):
                hall.as_of(99)
            self.assertEqual(hall.log(), before)

    def test_a_log_makes_no_two_unlike(self):
        one, other = Hall([(1, 1), (2, 1)]), Hall([(1, 1), (2, 1)])
        one.cry("left", ONE)
        one.undo()
        self.assertEqual(one, other)


class Alike(unittest.TestCase):
    def check_unlike(self, one, other):
        self.assertIs(one == other, False)
        self.assertIs(other == one, False)
        self.assertIs(one != other, True)

    def check_alike(self, one, other):
        self.assertIs(one == other, True)
        self.assertIs(one != other, False)

    def test_by_what_was_done(self):
        for seed, (rooms, wall) in enumerate(HALLS):
            deeds = drawn_history(rooms, wall, seed)
            self.check_alike(hall_after(rooms, wall, deeds), hall_after(rooms, wall, deeds))

    def test_another_wall(self):
        for rooms, wall in HALLS:
            for one in (1, -1) if len(rooms) == 1 else (0, 1, -1):
                for other in (1, -1) if len(rooms) == 1 else (0, 1, -1):
                    self.assertIs(Hall(rooms, wall=one) == Hall(rooms, wall=other), one == other)

    def test_other_rooms(self):
        for rooms, wall in HALLS:
            for at in range(len(rooms)):
                self.check_unlike(Hall(rooms, wall=wall), Hall(rooms[:at] + [(11, 1)] + rooms[at + 1:], wall=wall))
            self.check_unlike(Hall(rooms, wall=wall), Hall(rooms + [ONE], wall=wall))
            doubled = [(2 * top, bottom) if bottom % 2 else (top, bottom // 2) for top, bottom in rooms]
            self.check_unlike(Hall(rooms, wall=wall), Hall(doubled, wall=wall))

    def test_a_cry_that_waits(self):
        for rooms, wall in HALLS:
            one, other = stepped(rooms, wall), stepped(rooms, wall)
            one.cry("left", (1, 3))
            self.check_unlike(one, other)
            other.cry("left", (1, 4))
            self.check_unlike(one, other)
            other.cry("left", (1, 12))
            self.check_alike(one, other)
            one.cry("left", NOUGHT)
            self.check_alike(one, other)

    def test_a_cry_that_waits_on_the_other_side(self):
        for rooms, wall in FREE_HALLS:
            one, other = Hall(rooms), Hall(rooms)
            one.cry("left", ONE)
            other.cry("right", ONE)
            self.check_unlike(one, other)
            one.cry("right", ONE)
            other.cry("left", ONE)
            self.check_alike(one, other)

    def test_a_change_that_waits(self):
        for rooms, wall in HALLS:
            for room, weight in enumerate(rooms):
                one, other = Hall(rooms, wall=wall), Hall(rooms, wall=wall)
                one.change(room, (11, 5))
                self.check_unlike(one, other)
                other.change(room, (11, 7))
                self.check_unlike(one, other)
                other.change(room, (11, 5))
                self.check_alike(one, other)
                # to the weight that stands counts, too
                one.change(room, weight)
                self.check_unlike(one, other)
                self.check_unlike(one, Hall(rooms, wall=wall))
                other.change(room, weight)
                self.check_alike(one, other)
                one.beat()
                other = Hall(rooms, wall=wall)
                other.beat()
                self.check_alike(one, other)

    def test_changes_of_several_rooms_in_any_order(self):
        one, other = Hall([(1, 1), (2, 1), (3, 1)]), Hall([(1, 1), (2, 1), (3, 1)])
        for room in (0, 1, 2):
            one.change(room, (5, 1))
            other.change(2 - room, (5, 1))
        self.check_alike(one, other)
        other.change(1, (7, 1))
        self.check_unlike(one, other)

    def test_what_is_on_the_way(self):
        rooms = [(1, 1), (2, 1), (3, 1), (4, 1)]
        one, other = Hall(rooms), Hall(rooms)
        for hall in (one, other):
            hall.cry("left", ONE)
            hall.beat()
        other.turn()
        self.check_unlike(one, other)
        other.turn()
        self.check_alike(one, other)

    def test_what_was_heard(self):
        # A room alone with a wall: nothing is ever on the way.
        one, other = Hall([(1, 1)], wall=1), Hall([(1, 1)], wall=1)
        one.beat()
        self.check_unlike(one, other)
        other.cry("left", ONE)
        other.beat()
        self.check_unlike(one, other)
        one, other = Hall([(1, 1), (1, 1)]), Hall([(1, 1), (1, 1)])
        one.cry("left", ONE)
        other.cry("right", ONE)
        one.beat()
        other.beat()
        self.check_unlike(one, other)

    def test_how_it_came_does_not_count(self):
        one, other = Hall([(1, 1), (2, 1)]), Hall([(3, 1), (2, 1)])
        other.change(0, (1, 1))
        one.beat(2)
        other.beat()
        other.do([("beat",)])
        other.turn()
        self.check_alike(one, other)
        self.assertNotEqual(one.deeds(), other.deeds())

    def test_to_nothing_of_another_class(self):
        for rooms, wall in HALLS:
            hall = Hall(rooms, wall=wall)
            others = [None, 0, 1, True, False, "", "hall", [], (), rooms, (rooms, wall), hall.row(),
                      Waves(row_of(rooms, wall=wall), first=rooms[0])]
            for other in others:
                self.check_unlike(hall, other)
            self.assertIs(hall == mock.ANY, False)

    def test_a_hall_is_no_waves(self):
        waves = Waves((((1, 2),), 0))
        self.assertIs(waves == Hall([(1, 1), (1, 3)]), False)


class Own(unittest.TestCase):
    def asks(self, hall):
        return [hall.rooms, hall.on_way, lambda: hall.heard("left"), lambda: hall.heard("right"), hall.log]

    def test_told_lists_changed_and_asked_again(self):
        for rooms, wall in HALLS:
            hall = stepped(rooms, wall)
            then = hall.as_of(5)
            kept, then_kept = asked(hall), asked(then)
            for ask in self.asks(hall) + self.asks(then):
                told = ask()
                self.assertIsNot(told, ask())
                told.append("more")
                told[0] = None
                self.assertEqual((asked(hall), asked(then)), (kept, then_kept))
                told.clear()
                self.assertEqual((asked(hall), asked(then)), (kept, then_kept))

    def test_what_beat_and_do_tell(self):
        for rooms, wall in HALLS:
            hall, other = stepped(rooms, wall), stepped(rooms, wall)
            hall.beat(3).clear()
            told = hall.do([("beat", 2), ("beat",), ("turn",)])
            told[0].clear()
            told[1].append(None)
            told.clear()
            other.beat(3)
            other.do([("beat", 2), ("beat",), ("turn",)])
            self.assertEqual(asked(hall), asked(other))

    def test_no_two_told_lists_are_one_and_the_same(self):
        for rooms, wall in HALLS:
            hall = stepped(rooms, wall)
            twin = hall.twin()
            told = [ask() for _ in range(2) for ask in self.asks(hall) + self.asks(twin)]
            told += [hall.beat(), hall.beat()] + hall.do([("beat",), ("beat",)])
            self.assertEqual(len({id(numbers) for numbers in told}), len(told))

    def test_asked_again_the_same_is_told(self):
        for seed, (rooms, wall) in enumerate(HALLS):
            hall = hall_after(rooms, wall, drawn_history(rooms, wall, seed))
            self.assertEqual(asked(hall), asked(hall))
            self.assertIs(hall == hall, True)

    def test_what_was_told_may_be_handed_in_again(self):
        for rooms, wall in WALLED_HALLS:
            hall = stepped(rooms, wall)
            other = Hall(hall.rooms(), wall=hall.row()[1])
            other.change(0, hall.ledger()[0])
            other.cry("left", hall.heard("left")[-1])
            other.beat()
            self.assertEqual(other.rooms()[0], hall.ledger()[0])


if __name__ == "__main__":
    unittest.main()

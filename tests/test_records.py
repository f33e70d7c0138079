import copy
import unittest

from echopanes.hall import Hall
from echopanes.records import record_of, shows_record
from plain_hall import PlainHall
from sample_halls import HALLS, LONG_HALLS, SIZES, WEIGHTS, asked, do_deed, drawn_history, hall_after
from sample_rows import as_fraction, as_pair, kinds, plainly_fraction
from wrong_things import SWAPS, WRONG_ROWS, with_one_part_swapped

NOUGHT, ONE = (0, 1), (1, 1)
SMALL = [
    (0, ([(3, 1), (1, 1)], [("cry", "left", ONE), ("beat",), ("cry", "right", (1, 2)), ("beat",)])),
    (1, ([(5, 7)], [("cry", "left", (2, 1)), ("beat",), ("beat",)])),
    (-1, ([(3, 1), (1, 1)], [("cry", "left", ONE), ("beat", 2), ("turn",), ("change", 1, (2, 1)), ("beat",)])),
    (0, ([(3, 1), (1, 1), (1, 2)], [("cry", "left", ONE), ("beat",), ("change", 0, (2, 1)), ("turn",), ("beat", 2)])),
]


def drawn_halls():
    for seed, (rooms, wall) in enumerate(HALLS * 2):
        hall, plain = Hall(rooms, wall=wall), PlainHall(rooms, wall)
        for deed in drawn_history(rooms, wall, 400 + seed):
            do_deed(hall, deed)
            plain.deed(deed)
        yield wall, hall, plain


def small_records():
    for wall, (rooms, deeds) in SMALL:
        yield wall, record_of(hall_after(rooms, wall, deeds))


def from_its_end(record):
    return [(rooms, leaves, comes) for rooms, comes, leaves in reversed(record)]


def plain_leaves(rooms, wall, comes):
    told = []
    for at, (one, other) in enumerate(zip(rooms, rooms[1:])):
        r = (as_fraction(one) - as_fraction(other)) / (as_fraction(one) + as_fraction(other))
        a, b = (as_fraction(number) for number in comes[at])
        told.append((as_pair(r * a + (1 - r) * b), as_pair((1 + r) * a - r * b)))
    if wall:
        told.append((as_pair(wall * as_fraction(comes[-1][0])), NOUGHT))
    return told


def plainly_pairs(thing, many):
    return type(thing) is list and len(thing) == many and all(
        type(pair) is tuple and len(pair) == 2 and all(plainly_fraction(number) for number in pair) for pair in thing)


def plainly_scene(wall, thing):
    if type(thing) is not tuple or len(thing) != 3 or type(thing[0]) is not list:
        return False
    rooms, comes, leaves = thing
    if not all(plainly_fraction(weight) and weight[0] > 0 for weight in rooms) or len(rooms) < (1 if wall else 2):
        return False
    many = len(rooms) - 1 + (wall != 0)
    if not plainly_pairs(comes, many) or not plainly_pairs(leaves, many) or wall and comes[-1][1] != NOUGHT:
        return False
    return plain_leaves(rooms, wall, comes) == leaves


def plainly_next(one, other):
    links = range(len(one[1]) - 1)
    straight = all(
        other[1][k + 1][0] == one[2][k][1] and other[1][k][1] == one[2][k + 1][0] for k in links)
    turned = all(
        other[1][k][1] == one[2][k][1] and other[1][k + 1][0] == one[2][k + 1][0] for k in links)
    return len(one[0]) == len(other[0]) and (straight or turned)


def plainly_record(wall, thing):
    if type(thing) is not list or not all(plainly_scene(wall, scene) for scene in thing):
        return False
    return all(plainly_next(one, other) for one, other in zip(thing, thing[1:]))


class RecordOf(unittest.TestCase):
    def test_by_hand(self):
        hall = Hall([(3, 1), (1, 1), (1, 2)])
        hall.cry("left", ONE)
        hall.cry("right", (2, 1))
        hall.beat()
        hall.change(1, (2, 1))
        hall.turn()
        hall.cry("left", (1, 4))
        hall.cry("left", (1, 4))
        hall.beat()
        self.assertEqual(kinds(record_of(hall)), kinds([
            ([(3, 1), (1, 1), (1, 2)], [(ONE, NOUGHT), (NOUGHT, (2, 1))], [((1, 2), (3, 2)), ((4, 3), (-2, 3))]),
            ([(3, 1), (2, 1), (1, 2)], [((1, 2), (3, 2)), ((4, 3), NOUGHT)],
             [((13, 10), (3, 10)), ((4, 5), (32, 15))]),
        ]))

    def test_a_wall(self):
        hall = Hall([(3, 1), (1, 1)], wall=-1)
        hall.cry("left", ONE)
        hall.beat(2)
        self.assertEqual(record_of(hall), [
            ([(3, 1), (1, 1)], [(ONE, NOUGHT), (NOUGHT, NOUGHT)], [((1, 2), (3, 2)), (NOUGHT, NOUGHT)]),
            ([(3, 1), (1, 1)], [(NOUGHT, NOUGHT), ((3, 2), NOUGHT)], [(NOUGHT, NOUGHT), ((-3, 2), NOUGHT)]),
        ])

    def test_of_no_beat(self):
        for rooms, wall in HALLS:
            hall = Hall(rooms, wall=wall)
            self.assertEqual(kinds(record_of(hall)), kinds([]))
            hall.cry("left", ONE)
            hall.change(0, (5, 1))
            hall.turn()
            self.assertEqual(record_of(hall), [])

    def test_of_any_history(self):
        for wall, hall, plain in drawn_halls():
            self.assertEqual(kinds(record_of(hall)), kinds(plain.course().records))

    def test_of_a_twin_and_of_an_as_of(self):
        for wall, hall, plain in drawn_halls():
            told = record_of(hall)
            self.assertEqual(record_of(hall.twin()), told)
            for many in range(0, hall.deeds() + 1, 3):
                then = hall.as_of(many)
                self.assertEqual(record_of(then), told[:then.beats()])

    def test_the_hall_stays_as_it_was(self):
        for wall, hall, plain in drawn_halls():
            before, twin = asked(hall), hall.twin()
            record_of(hall)
            self.assertEqual((asked(hall), hall), (before, twin))

    def test_no_two_told_lists_are_one_and_the_same(self):
        for wall, hall, plain in drawn_halls():
            told, kept = record_of(hall), record_of(hall)
            lists = [told, kept] + [part for scene in told + kept for part in scene]
            self.assertEqual(len({id(part) for part in lists}), len(lists))
            before = asked(hall)
            for rooms, comes, leaves in told:
                rooms[0] = None
                comes.clear()
                leaves.append(None)
            told.clear()
            self.assertEqual((record_of(hall), asked(hall)), (kept, before))

    def test_forty_beats_of_twelve_panes(self):
        for rooms, wall in LONG_HALLS:
            deeds = [deed for at in range(20) for deed in (
                ("cry", "left", SIZES[at % 6]), ("change", at % 13, WEIGHTS[at % 7]), ("beat", 2))]
            plain = PlainHall(rooms, wall)
            plain.stands = [[deed] for deed in deeds]
            told = record_of(hall_after(rooms, wall, deeds))
            self.assertEqual(told, plain.course().records)
            self.assertIs(shows_record(wall, told), True)

    def test_by_names(self):
        self.assertEqual(record_of(hall=Hall([ONE, ONE])), [])


class ShowsRecord(unittest.TestCase):
    def test_none_at_all_is_one(self):
        for wall in (0, 1, -1):
            self.assertIs(shows_record(wall, []), True)
            self.assertIs(shows_record(wall, ()), False)

    def test_told_ones_and_each_stretch_of_them(self):
        for wall, hall, plain in drawn_halls():
            told = record_of(hall)
            for start in range(len(told) + 1):
                for end in range(start, len(told) + 1, 2):
                    self.assertIs(shows_record(wall, told[start:end]), True)
            self.assertIs(shows_record(wall, told), True)

    def test_read_from_its_end(self):
        for wall, hall, plain in drawn_halls():
            self.assertIs(shows_record(wall, from_its_end(record_of(hall))), True)

    def test_read_from_its_end_with_what_comes_and_leaves_as_it_was(self):
        wrong = 0
        for wall, hall, plain in drawn_halls():
            told = record_of(hall)[::-1]
            self.assertIs(shows_record(wall, told), plainly_record(wall, told))
            wrong += not plainly_record(wall, told)
        self.assertGreater(wrong, 5)

    def test_turned_about_at_each_beat(self):
        for rooms, wall in HALLS:
            hall = Hall(rooms, wall=wall)
            for at in range(6):
                hall.cry("left", (at + 1, 1))
                hall.turn()
                hall.change(0, WEIGHTS[at])
                hall.beat()
            self.assertIs(shows_record(wall, record_of(hall)), True)

    def test_turned_about_in_some_rooms_alone(self):
        # Of two inner rooms, in one what left goes on, in the other it comes back.
        rooms = [ONE, ONE, ONE, ONE]
        first = [(ONE, (2, 1)), ((3, 1), (4, 1)), ((5, 1), (6, 1))]
        leaves = plain_leaves(rooms, 0, first)
        on, back = [((4, 1), ONE), ((6, 1), (3, 1))], [(ONE, (4, 1)), ((3, 1), (6, 1))]
        self.assertEqual([(leaves[k][1], leaves[k + 1][0]) for k in (0, 1)], [(ONE, (4, 1)), ((3, 1), (6, 1))])
        for one, other, right in [(on[0], on[1], True), (back[0], back[1], True), (on[0], back[1], False),
                                  (back[0], on[1], False)]:
            comes = [(NOUGHT, one[0]), (one[1], other[0]), (other[1], NOUGHT)]
            record = [(rooms, first, leaves), (rooms, comes, plain_leaves(rooms, 0, comes))]
            self.assertIs(shows_record(0, record), right)
            self.assertIs(plainly_record(0, record), right)

    def test_any_cries(self):
        for wall, record in small_records():
            for at in range(len(record)):
                changed = copy.deepcopy(record[:at + 1])
                rooms, comes, leaves = changed[at]
                comes[0] = ((7, 3), comes[0][1])
                if wall == 0:
                    comes[-1] = (comes[-1][0], (11, 13))
                leaves[:] = plain_leaves(rooms, wall, comes)
                self.assertIs(shows_record(wall, changed), True)

    def test_at_the_first_beat_anything_may_come(self):
        for rooms, wall in HALLS:
            many = len(rooms) - 1 + (wall != 0)
            comes = [((k + 1, 7), (k + 2, 5)) for k in range(many)]
            comes = [tuple(as_pair(as_fraction(number)) for number in pair) for pair in comes]
            if wall:
                comes[-1] = (comes[-1][0], NOUGHT)
            self.assertIs(shows_record(wall, [(rooms, comes, plain_leaves(rooms, wall, comes))]), True)

    def test_another_wall(self):
        hall = Hall([(3, 1), (1, 1)], wall=1)
        hall.cry("left", ONE)
        hall.beat(3)
        self.assertEqual([shows_record(wall, record_of(hall)) for wall in (0, 1, -1)], [False, True, False])
        hall = Hall([(3, 1), (1, 1)])
        hall.beat()
        self.assertEqual([shows_record(wall, record_of(hall)) for wall in (0, 1, -1)], [True, False, False])

    def test_on_a_walls_right_there_is_nought(self):
        for wall in (1, -1):
            right = ([ONE], [(ONE, NOUGHT)], [((wall, 1), NOUGHT)])
            self.assertIs(shows_record(wall, [right]), True)
            for comes, leaves in [([(ONE, ONE)], right[2]), (right[1], [((wall, 1), ONE)]), ([(ONE, ONE)], [((wall, 1), ONE)]),
                                  (right[1], [((-wall, 1), NOUGHT)]), (right[1], [(NOUGHT, NOUGHT)])]:
                self.assertIs(shows_record(wall, [([ONE], comes, leaves)]), False)

    def test_too_few_rooms(self):
        self.assertIs(shows_record(0, [([ONE], [], [])]), False)
        self.assertIs(shows_record(0, [([], [], [])]), False)
        for wall in (1, -1):
            self.assertIs(shows_record(wall, [([], [], [])]), False)
            self.assertIs(shows_record(wall, [([], [(NOUGHT, NOUGHT)], [(NOUGHT, NOUGHT)])]), False)
            self.assertIs(shows_record(wall, [([ONE], [], [])]), False)

    def test_rooms_unlike_in_number(self):
        def still(many, wall):
            pairs = [(NOUGHT, NOUGHT)] * (many - 1 + abs(wall))
            return ([ONE] * many, list(pairs), list(pairs))
        for wall in (0, 1, -1):
            for one in range(2, 5):
                for other in range(2, 5):
                    self.assertIs(shows_record(wall, [still(one, wall), still(other, wall)]), one == other)
            rooms, comes, leaves = still(3, wall)
            for scene in [(rooms[1:], comes, leaves), (rooms, comes[1:], leaves), (rooms, comes, leaves[1:]),
                          (rooms + [ONE], comes, leaves), (rooms, comes + [(NOUGHT, NOUGHT)], leaves),
                          (rooms, comes, leaves + [(NOUGHT, NOUGHT)])]:
                self.assertIs(shows_record(wall, [scene]), False)

    def test_weights_of_nought_or_below(self):
        for wall in (0, 1, -1):
            for weight in [NOUGHT, (-1, 1), (-7, 3), (2, 4), (0, 2), (True, 1), (1, True), None, "1", 1, True, [1, 1]]:
                for rooms in ([weight, ONE], [ONE, weight]):
                    pairs = [(NOUGHT, NOUGHT)] * (1 + abs(wall))
                    self.assertIs(shows_record(wall, [(rooms, list(pairs), list(pairs))]), False)

    def test_a_number_otherwise_at_any_place(self):
        for wall, record in small_records():
            for at in range(len(record)):
                for part in (0, 1, 2):
                    for k in range(len(record[at][part])):
                        for end in ((0,) if part == 0 else (0, 1)):
                            changed = copy.deepcopy(record)
                            if part == 0:
                                changed[at][0][k] = (11, 7)
                            else:
                                pair = list(changed[at][part][k])
                                pair[end] = as_pair(as_fraction(pair[end]) + 1)
                                changed[at][part][k] = tuple(pair)
                            plain = plainly_record(wall, changed)
                            self.assertIs(shows_record(wall, changed), plain)
                            # What comes otherwise leaves otherwise, too, and so does what meets another pane.
                            if part == 2:
                                self.assertIs(plain, False)

    def test_what_comes_otherwise_to_one_pane_from_its_neighbour(self):
        wrong = 0
        for wall, record in list(small_records()) + [(wall, record_of(hall)[:4]) for wall, hall, plain in drawn_halls()]:
            for at in range(1, len(record)):
                for k in range(len(record[at][1])):
                    for end in (0, 1):
                        rooms, comes, leaves = copy.deepcopy(record[at])
                        pair = list(comes[k])
                        pair[end] = as_pair(as_fraction(pair[end]) + 1)
                        comes[k] = tuple(pair)
                        changed = record[:at] + [(rooms, comes, plain_leaves(rooms, wall, comes))]
                        plain = plainly_record(wall, changed)
                        self.assertIs(shows_record(wall, changed), plain)
                        wrong += not plain
        self.assertGreater(wrong, 100)

    def test_turned_about_in_one_way_of_a_room_alone(self):
        rooms, first = [ONE, ONE, ONE], [(ONE, (2, 1)), ((3, 1), (4, 1))]
        # What leaves is 1 to the right and 4 to the left in the one room between.
        leaves = plain_leaves(rooms, 0, first)
        for here in (ONE, (4, 1), (7, 1)):
            for there in (ONE, (4, 1), (7, 1)):
                comes = [(NOUGHT, here), (there, NOUGHT)]
                record = [(rooms, first, leaves), (rooms, comes, plain_leaves(rooms, 0, comes))]
                right = (here, there) in [((4, 1), ONE), (ONE, (4, 1))]
                self.assertIs(shows_record(0, record), right)

    def test_records_with_one_part_swapped(self):
        right = 0
        for wall, record in small_records():
            for swap in SWAPS:
                for thing in with_one_part_swapped(record, swap):
                    plain = plainly_record(wall, thing)
                    self.assertIs(shows_record(wall, thing), plain, thing)
                    right += plain
        self.assertGreater(right, 20)

    def test_wrong_things(self):
        things = WRONG_ROWS + ["record", [None], [True], [0], [()], [[]], [("", "", "")], ["abc"],
                               [([], [])], [([], [], [], [])], [[[ONE], [], []]], [(1, 2, 3)], [(ONE, ONE, ONE)]]
        for thing in things:
            if thing != []:
                for wall in (0, 1, -1):
                    self.assertIs(shows_record(wall, thing), False, thing)

    def test_lists_for_tuples_and_tuples_for_lists(self):
        for wall, record in small_records():
            rooms, comes, leaves = record[0]
            for scene in [[rooms, comes, leaves], (tuple(rooms), comes, leaves), (rooms, tuple(comes), leaves),
                          (rooms, comes, tuple(leaves)), (rooms, [list(pair) for pair in comes], leaves),
                          (rooms, comes, [list(pair) for pair in leaves]), ([list(weight) for weight in rooms], comes, leaves),
                          (rooms, [([0, 1], pair[1]) for pair in comes], leaves), (rooms, comes, leaves, leaves)]:
                self.assertIs(shows_record(wall, [scene] + record[1:]), False)
            self.assertIs(shows_record(wall, tuple(record)), False)
            self.assertIs(shows_record(wall, record), True)

    def test_what_is_handed_in_stays(self):
        for wall, record in small_records():
            kept = copy.deepcopy(record)
            shows_record(wall, record)
            self.assertEqual(kinds(record), kinds(kept))

    def test_by_names(self):
        self.assertIs(shows_record(thing=[], wall=1), True)
        self.assertIs(shows_record(thing=(), wall=1), False)


if __name__ == "__main__":
    unittest.main()

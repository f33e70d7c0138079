"""Things that are no ROWs, nearly ROWs, or swapped in part, which several tests go through."""

from sample_rows import as_fraction, plainly_fraction

WRONG_ROWS = [
    # not a pair
    None, True, False, 0, 1, -1, "", "row", "((), 0)", (), [], (0,), ((),), ((), 0, 0), ((), (), 0), (0, ()),
    # a list where a tuple must be
    [(), 0], [(((1, 2)),), 0], ([], 0), ([(1, 2)], 0), (([1, 2],), 0), (((1, 2), [1, 2]), 0),
    # another wall, or one that is no number
    ((), 2), ((), -2), ((), True), ((), False), ((), None), ((), "0"), ((), ""), ((), ()), ((), (0, 1)), ((), [0]),
    (((1, 2),), True), (((1, 2),), False), (((1, 2),), (1, 1)), (((1, 2),), 10 ** 30),
    # panes that are none
    (None, 0), (0, 0), ("", 0), ("ab", 0), (True, 0), ((0,), 0), ((None,), 0), (("",), 0), (((),), 0), ((True,), 0),
    ((1, 2), 0), (((1,),), 0), (((1, 2, 1),), 0), ((((1, 2),),), 0), ((((1, 2), 1),), 0), (((1, (1, 2)),), 0),
    # True or False for a number
    (((True, 2),), 0), (((False, 1),), 0), (((0, True),), 0), (((1, 2), (True, 2)), 0),
    # texts and None for a number
    ((("1", 2),), 0), (((1, "2"),), 0), (((None, 1),), 0), (((0, None),), 0), (("12",), 0),
    # bottoms of 0 or below, no lowest terms
    (((0, 0),), 0), (((1, 0),), 0), (((1, -2),), 0), (((-1, -2),), 0), (((0, -1),), 0),
    (((2, 4),), 0), (((0, 2),), 0), (((-3, 9),), 0), (((1, 2), (2, 6), (1, 2)), 0),
    # 1, -1 and beyond
    (((1, 1),), 0), (((-1, 1),), 0), (((2, 1),), 0), (((-2, 1),), 0), (((3, 2),), 0), (((-3, 2),), 0),
    (((10 ** 40 + 1, 10 ** 40),), 0), (((-(10 ** 40) - 1, 10 ** 40),), 0), (((1, 2), (1, 1)), 1), (((1, 1), (1, 2)), -1),
    # six deep
    ((((((1,),),),),),), [[[[[[0]]]]]], ((((((0, 1),),),),), 0), ([[[[["a"]]]]], 0), ((), ([([None],)],)),
]

SWAPS = [0, 1, -1, 2, True, False, None, "", "1", (), [], (0, 1), (1, 2), [1, 2], (1, 1), (2, 4), ((1, 2),), ((), 0)]


def plainly_row(thing):
    if type(thing) is not tuple or len(thing) != 2 or type(thing[0]) is not tuple:
        return False
    right_wall = type(thing[1]) is int and thing[1] in (-1, 0, 1)
    return right_wall and all(plainly_fraction(pane) and -1 < as_fraction(pane) < 1 for pane in thing[0])


def with_one_part_swapped(thing, swap):
    """The thing with each of its parts, one at a time, at any depth, replaced, left out, put in, a list for a tuple."""
    yield swap
    if isinstance(thing, (tuple, list)):
        kind, parts = type(thing), list(thing)
        yield tuple(parts) if kind is list else parts
        yield kind(parts + [swap])
        for at, part in enumerate(parts):
            yield kind(parts[:at] + parts[at + 1:])
            for other in with_one_part_swapped(part, swap):
                yield kind(parts[:at] + [other] + parts[at + 1:])

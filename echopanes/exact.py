"""FRACTIONs: pairs (top, bottom) in lowest terms, bottom above 0, and their exact sums and products."""

NOUGHT = (0, 1)
ONE = (1, 1)


def is_number(thing):
    # True and False are Python's whole numbers, too, but not this program's.
    return isinstance(thing, int) and not isinstance(thing, bool)


def common_part(one, other):
    """The greatest whole number that divides both; 0 of two noughts."""
    while other:
        one, other = other, one % other
    return abs(one)


def is_fraction(thing):
    if not isinstance(thing, tuple) or len(thing) != 2:
        return False
    top, bottom = thing
    if not is_number(top) or not is_number(bottom):
        return False
    return bottom > 0 and common_part(top, bottom) == 1


def fraction(top, bottom):
    """The FRACTION that is top by bottom; bottom is any number but 0."""
    part = common_part(top, bottom)
    if bottom < 0:
        part = -part
    return (top // part, bottom // part)


def plus(one, other):
    # Parts that are known to be common are taken off first: to find one of great numbers takes longest.
    part = common_part(one[1], other[1])
    share = one[1] // part
    top = one[0] * (other[1] // part) + other[0] * share
    rest = common_part(top, part)
    return (top // rest, share * (other[1] // rest))


def minus(one, other):
    return plus(one, (-other[0], other[1]))


def times(one, other):
    # Each is in lowest terms, so only one's top and the other's bottom can have a part in common.
    part, rest = common_part(one[0], other[1]), common_part(other[0], one[1])
    return ((one[0] // part) * (other[0] // rest), (one[1] // rest) * (other[1] // part))


def over(one, other):
    return fraction(one[0] * other[1], one[1] * other[0])


def is_more(one, other):
    return one[0] * other[1] > other[0] * one[1]


def without_last_noughts(numbers):
    """The list or tuple of FRACTIONs without the last ones that are 0."""
    end = len(numbers)
    while end > 0 and numbers[end - 1] == NOUGHT:
        end -= 1
    return numbers[:end]


def squares_of(numbers):
    """The squares of the FRACTIONs, together."""
    total = NOUGHT
    for number in numbers:
        total = plus(total, times(number, number))
    return total

"""Numbers heard or cried one behind the other, as lists: products, quotients, and the step past a pane.

A number's place in its list is the power of x it stands at; x is the way to the next pane and back. Long reckonings
go over whole numbers, scaled alike, as bringing each FRACTION to lowest terms on the way takes far longer.
"""

from echopanes.exact import common_part, fraction


def number_at(wholes, place):
    """The whole number at the place, 0 behind the last one."""
    return wholes[place] if place < len(wholes) else 0


def with_one_more(wholes, bottom, number):
    """The whole numbers over a common bottom, with a FRACTION behind them, over the bottom common to all."""
    top, own = number
    more = own // common_part(own, bottom)
    return [whole * more for whole in wholes] + [top * (bottom * more // own)], bottom * more


def scaled(numbers):
    """The FRACTIONs as whole numbers, and the bottom that is common to them."""
    wholes, bottom = [], 1
    for number in numbers:
        wholes, bottom = with_one_more(wholes, bottom, number)
    return wholes, bottom


def heard_of_one(echoes):
    """What is heard by this echo, and the single cry of which it is heard, as whole numbers scaled alike.

    The list of cries is the longer one by one.
    """
    wholes, bottom = scaled(echoes)
    return wholes, [bottom] + [0] * len(wholes)


def lowered(one, other):
    """Both lists of whole numbers, not all of them 0, without the part common to all."""
    part = 0
    for whole in one + other:
        part = common_part(whole, part)
    return [whole // part for whole in one], [whole // part for whole in other]


def sum_at(one, other, place):
    """The number at the place of the product of two lists of whole numbers."""
    return sum([number_at(one, place - back) * other[back] for back in range(min(place + 1, len(other)))])


def product(one, other, many):
    """The first so many FRACTIONs of the product of two lists of FRACTIONs."""
    ones, one_bottom = scaled(one)
    others, other_bottom = scaled(other)
    return [fraction(sum_at(ones, others, place), one_bottom * other_bottom) for place in range(many)]


def quotient(one, other, many):
    """The first so many FRACTIONs by which `other` is `one`; both of whole numbers, the first of `other` not 0."""
    told, wholes, bottom = [], [], 1
    for place in range(many):
        # The number at this place is still lacking in wholes, so it counts as 0 there.
        left = number_at(one, place) * bottom - sum_at(wholes, other, place)
        told.append(fraction(left, bottom * other[0]))
        wholes, bottom = with_one_more(wholes, bottom, told[-1])
    return told


def ahead_of_pane(pane, heard, cries):
    """What is heard and cried ahead of a pane, scaled alike, where these whole numbers are heard and cried behind it.

    Each list, both as long, becomes longer by one; their squares' difference is scaled by 1 - r r, r the pane.
    """
    top, bottom = pane
    later, now = [0] + heard, cries + [0]
    heard_ahead = [top * cry + bottom * late for cry, late in zip(now, later)]
    cries_ahead = [bottom * cry + top * late for cry, late in zip(now, later)]
    return heard_ahead, cries_ahead


def ahead_of_panes(panes, heard, cries):
    """What is heard and cried ahead of all these panes, scaled alike, as ahead_of_pane tells of one."""
    for pane in reversed(panes):
        heard, cries = ahead_of_pane(pane, heard, cries)
    return heard, cries


def behind_pane(pane, heard, cries):
    """What is heard and cried behind a pane, scaled alike, where these whole numbers are heard and cried ahead of it.

    The list of cries is the longer one by one, and stays so.
    """
    top, bottom = pane
    heard_behind = [bottom * echo - top * cry for echo, cry in zip(heard[1:], cries[1:])]
    cries_behind = [bottom * cry - top * echo for echo, cry in zip(heard, cries)]
    return lowered(heard_behind, cries_behind)

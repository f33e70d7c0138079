"""Pairs of polynomials reckoned straight from the document's words, by Python's own fractions."""

from fractions import Fraction

from sample_rows import as_fraction, as_pair, plainly_fraction


def without_noughts(numbers):
    numbers = list(numbers)
    while numbers and numbers[-1] == 0:
        numbers.pop()
    return numbers


def plus(one, other):
    many = max(len(one), len(other))
    padded = [list(numbers) + [Fraction(0)] * (many - len(numbers)) for numbers in (one, other)]
    return without_noughts(a + b for a, b in zip(*padded))


def times(one, other):
    told = [Fraction(0)] * (len(one) + len(other))
    for i, a in enumerate(one):
        for j, b in enumerate(other):
            told[i + j] += a * b
    return without_noughts(told)


def as_fractions(numbers):
    return [as_fraction(number) for number in numbers]


def as_pairs(numbers):
    return [as_pair(Fraction(number)) for number in numbers]


def plain_pair_of(row):
    panes, wall = row
    heard, cries = ([Fraction(wall)] if wall else []), [Fraction(1)]
    for pane in reversed(panes):
        r, later = as_fraction(pane), [Fraction(0)] + heard
        heard, cries = plus(times([r], cries), later), plus(cries, times([r], later))
    return (as_pairs(heard), as_pairs(cries))


def plain_row_in(pair):
    """The trimmed row that has the pair, found pane by pane from the polynomials alone; None where none has."""
    heard, cries = as_fractions(pair[0]), as_fractions(pair[1])
    panes = []
    for _ in range(len(heard) + 1):
        if cries[:1] != [1]:
            return None
        if not heard:
            return (tuple(panes), 0) if cries == [1] else None
        r = heard[0]
        if abs(r) >= 1:
            return (tuple(panes), int(r)) if cries == [1] and heard in ([1], [-1]) else None
        panes.append(as_pair(r))
        later, behind = plus(heard, times([-r], cries)), plus(cries, times([-r], heard))
        heard, cries = times(later[1:], [1 / (1 - r * r)]), times(behind, [1 / (1 - r * r)])
    return None


def plainly_polynomial(thing):
    return type(thing) is list and all(plainly_fraction(part) for part in thing) and thing[-1:] != [(0, 1)]


def plainly_pair(thing):
    if type(thing) is not tuple or len(thing) != 2 or not all(plainly_polynomial(part) for part in thing):
        return False
    return plain_row_in(thing) is not None


def plain_squares_in(pair):
    heard, cries = as_fractions(pair[0]), as_fractions(pair[1])
    many = max(len(heard), len(cries))
    told = []
    for sign, numbers in ((1, cries), (-1, heard)):
        padded = numbers + [Fraction(0)] * (many - len(numbers))
        told = plus(told, times([Fraction(sign)], times(padded, padded[::-1])))
    return as_pairs(told)


def plain_echo_in(pair, many):
    """The numbers by which the second polynomial is the first one."""
    heard, cries = as_fractions(pair[0]), as_fractions(pair[1])
    told = []
    for place in range(many):
        left = heard[place] if place < len(heard) else Fraction(0)
        left -= sum(told[place - k] * cries[k] for k in range(1, min(place + 1, len(cries))))
        told.append(left / cries[0])
    return as_pairs(told)

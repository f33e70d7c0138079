"""Whole echoes: a row's pair of polynomials, what is heard and what is cried, by powers of x."""

from echopanes.echoes import heard_and_cried
from echopanes.errors import NoRow
from echopanes.exact import NOUGHT, ONE, fraction, is_fraction, minus, without_last_noughts
from echopanes.finding import found_back
from echopanes.series import product, quotient, scaled


def polynomial(wholes, bottom):
    """The polynomial of these whole numbers, each over the bottom."""
    return without_last_noughts([fraction(whole, bottom) for whole in wholes])


def pair_of(row):
    """The pair of a row: a tuple of two polynomials."""
    heard, cries = heard_and_cried(row)
    return (polynomial(heard, cries[0]), polynomial(cries, cries[0]))


def echo_in(pair, many):
    """The list of the first so many numbers of A / B, of any two polynomials, B's first number not 0."""
    heard, cries = pair
    wholes, bottom = scaled(list(heard) + list(cries))
    return quotient(wholes[:len(heard)], wholes[len(heard):], many)


def times_turned(numbers, many):
    """The product of the polynomial, with noughts so many numbers long, and of itself turned about."""
    padded = list(numbers) + [NOUGHT] * (many - len(numbers))
    return product(padded, padded[::-1], 2 * many - 1)


def squares_in(pair):
    """The polynomial of the squares cried less those heard."""
    heard, cries = pair
    many = max(len(heard), len(cries))
    cried, thrown = times_turned(cries, many), times_turned(heard, many)
    return without_last_noughts([minus(one, other) for one, other in zip(cried, thrown)])


def keeps_squares(pair):
    """Whether the squares cried are more than those heard at one power alone, if at any, as each row's are."""
    return all([number == NOUGHT for number in squares_in(pair)[:-1]])


def row_or_none(pair):
    """The trimmed ROW that has these two polynomials; None where none has."""
    heard, cries = pair
    # Finding back is slow where numbers are great; that squares are not kept is told far sooner.
    if list(cries[:1]) != [ONE] or not keeps_squares(pair):
        return None
    # A trimmed row has as many panes, a wall counted as one, as its first polynomial has numbers.
    word, told = found_back(echo_in(pair, len(heard)))
    if word == "row" and pair_of(told) == (list(heard), list(cries)):
        return told
    return None


def row_in(pair):
    """The trimmed ROW that has this pair."""
    row = row_or_none(pair)
    if row is None:
        raise NoRow()
    return row


def is_polynomial(thing):
    if not isinstance(thing, list) or not all([is_fraction(number) for number in thing]):
        return False
    return thing[-1:] != [NOUGHT]


def is_pair(thing):
    """Whether the thing is just some ROW's pair."""
    if not isinstance(thing, tuple) or len(thing) != 2:
        return False
    return all([is_polynomial(part) for part in thing]) and row_or_none(thing) is not None

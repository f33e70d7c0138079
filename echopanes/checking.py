"""Whether a thing shows that numbers are a row's, or none's."""

from echopanes.echoes import echo
from echopanes.exact import is_fraction, is_more, squares_of
from echopanes.rows import is_row
from echopanes.series import product


def shows_row(echoes, thing):
    """Whether the thing is a ROW whose echo begins with these numbers."""
    return is_row(thing) and echo(thing, len(echoes)) == list(echoes)


def is_paper(echoes, thing):
    """Whether the thing is a list of cries, one at least and no more than numbers."""
    if not isinstance(thing, list) or not 1 <= len(thing) <= len(echoes):
        return False
    return all([is_fraction(cry) for cry in thing])


def shows_none(echoes, thing):
    """Whether the thing is a paper of none of these numbers: more would be heard of it than was cried."""
    if not is_paper(echoes, thing):
        return False
    return is_more(squares_of(product(echoes, thing, len(thing))), squares_of(thing))

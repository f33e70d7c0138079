"""Echoes: what is heard of a row on its left, and what is heard through it."""

from echopanes.errors import NoCry, NoPane, Walled
from echopanes.exact import NOUGHT
from echopanes.series import ahead_of_panes, lowered, product, quotient, scaled


def heard_and_cried(row):
    """Two lists of whole numbers, scaled alike: the cries ahead of the row by which just one comes out behind its
    last pane, or comes to its wall, and what is heard of them."""
    panes, wall = row
    return ahead_of_panes(panes, [wall], [1])


def echo(row, many):
    """The list of the first so many numbers of the row's echo."""
    panes, wall = row
    # Whatever stands behind as many panes as numbers is not heard among these, so they may stand for a longer row.
    heard, cries = heard_and_cried((panes[:many], wall))
    heard, cries = lowered(heard, cries)
    return quotient(heard, cries, many)


def heard_of(row, cries, many):
    """The list of the first so many numbers heard of these cries, nothing being cried behind the last."""
    return product(echo(row, many), cries, many)


def echoes_of(cries, heard):
    """The list of the echo by which these cries are heard so."""
    if len(cries) == 0 or cries[0] == NOUGHT:
        raise NoCry()
    many = min(len(cries), len(heard))
    wholes, bottom = scaled(list(cries[:many]) + list(heard[:many]))
    return quotient(wholes[many:], wholes[:many], many)


def let_through(panes, side):
    """How much comes out on the other side of the cries of heard_and_cried, cried on that side."""
    share = 1
    for top, bottom in panes:
        share *= bottom + top if side == "left" else bottom - top
    return share


def through(row, many, *, side="left"):
    """The list of the first so many numbers heard on the other side of a cry of 1 on that side."""
    panes, wall = row
    if wall != 0 and side == "right":
        raise Walled()
    if len(panes) == 0:
        raise NoPane()
    if wall != 0:
        return [NOUGHT] * many
    # The same cries, on either side, let just one out on the other; only its size depends on the side.
    heard, cries = heard_and_cried(row)
    return quotient([let_through(panes, side)], cries, many)

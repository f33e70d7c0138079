"""What stands behind a row: heard through it, or taken off from what is heard of both."""

from echopanes.echoes import echo
from echopanes.errors import NoRow, Walled
from echopanes.series import ahead_of_panes, behind_pane, heard_of_one, lowered, quotient


def echo_behind(row, echoes):
    """The list of what is heard of the row where what stands behind it has an echo that begins with these."""
    panes, wall = row
    if wall != 0:
        raise Walled()
    heard, cries = heard_of_one(echoes)
    # Whatever comes behind the told numbers is not heard among so many, so it may be 0.
    heard, cries = ahead_of_panes(panes, heard + [0], cries)
    heard, cries = lowered(heard, cries)
    return quotient(heard, cries, len(panes) + len(echoes))


def taken(row, echoes):
    """The list of what is left for what stands behind the row, where these are heard of both."""
    panes, wall = row
    if wall != 0:
        raise Walled()
    many = min(len(panes), len(echoes))
    if echo(row, many) != list(echoes[:many]):
        raise NoRow()
    heard, cries = heard_of_one(echoes)
    for pane in panes[:many]:
        heard, cries = behind_pane(pane, heard, cries)
    return quotient(heard, cries, len(heard))

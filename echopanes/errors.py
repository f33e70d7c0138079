"""What the program refuses with: one class for each kind of refusal.

The words are fixed and leave the fields out: Python refuses to write very long
numbers as text, and a refusal must not fail while it is made.
"""


class BadText(ValueError):
    """A text that is no row's."""

    def __init__(self, text):
        ValueError.__init__(self, "the text is not that of a row")
        self.text = text


class BadRow(ValueError):
    """A row of a sheet that is not written as it must be."""

    def __init__(self, number):
        ValueError.__init__(self, "a row of the sheet is not written as it must be")
        self.number = number


class NoPane(ValueError):
    """There is no pane where one is needed."""


class NoCry(ValueError):
    """There is no cry, or the first one is 0."""


class NoRow(ValueError):
    """No row has this."""


class Few(ValueError):
    """Too few panes are told: as many as `lack` are told by neither end."""

    def __init__(self, lack):
        ValueError.__init__(self, "some panes are told by neither end")
        self.lack = lack


class Clash(ValueError):
    """Both ends tell the pane at `place`, and not alike."""

    def __init__(self, place):
        ValueError.__init__(self, "both ends tell a pane, and not alike")
        self.place = place


class ClashWeights(ValueError):
    """The outer rooms' weights are not those that the panes tell."""


class NoRoom(LookupError):
    """There is no room of this number."""

    def __init__(self, room):
        LookupError.__init__(self, "there is no room of this number")
        self.room = room


class NoDeed(LookupError):
    """There are not so many deeds."""

    def __init__(self, many):
        LookupError.__init__(self, "there are not so many deeds")
        self.many = many


class Walled(RuntimeError):
    """There is a wall where none may be."""

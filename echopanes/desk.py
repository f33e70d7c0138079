"""The desk: answers to the rows of a sheet, which make a hall and ask of it."""

from echopanes.errors import BadRow, NoRoom, Walled
from echopanes.hall import Hall
from echopanes.rowtext import fraction_in, fraction_text, number_in, number_text, row_text, wall_in

SIX_FIGURES = 999999
THREE_FIGURES = 999
ALONE = ("turn", "undo", "beat", "ledger", "row")


def size_in(word):
    """The FRACTION of six figures at most above and below; None where the word is none."""
    size = fraction_in(word)
    if size is None or max(abs(size[0]), size[1]) > SIX_FIGURES:
        return None
    return size


def weight_in(word):
    weight = size_in(word)
    return None if weight is None or weight[0] <= 0 else weight


def room_in(word):
    room = number_in(word)
    if room is None or not 0 <= room <= THREE_FIGURES or number_text(room) != word:
        return None
    return room


def hall_in(row):
    """The pair (rooms, wall) that the sheet's first row tells; None where it is not so written."""
    words = row.split(" ")
    wall = wall_in(words)
    rooms = [weight_in(word) for word in (words[1:] if wall == 0 else words[1:-2])]
    if words[0] != "hall" or None in rooms or len(rooms) + abs(wall) < 2:
        return None
    return (rooms, wall)


def deed_in(row):
    """The tuple of a word and its arguments that a further row tells; None where it is not so written."""
    words = row.split(" ")
    deed = None
    if row in ALONE:
        deed = (row,)
    elif len(words) == 3 and words[0] == "cry" and words[1] in ("left", "right"):
        deed = ("cry", words[1], size_in(words[2]))
    elif len(words) == 3 and words[0] == "change":
        deed = ("change", room_in(words[1]), weight_in(words[2]))
    return None if deed is None or None in deed else deed


def answer(hall, deed):
    """Does what a row tells, and answers it."""
    word = deed[0]
    if word == "ledger":
        return " ".join([fraction_text(part) for part in hall.ledger()])
    if word == "row":
        return row_text(hall.row())
    if word == "undo":
        return "yes" if hall.undo() else "no"
    if word == "beat":
        return " ".join([fraction_text(heard) for heard in hall.beat()[0]])
    try:
        hall.do([deed])
    except Walled:
        return "refused Walled"
    except NoRoom:
        return "refused NoRoom"
    return "done"


def read(rows):
    """The list of what all rows with a sign tell, the first of them a pair (rooms, wall)."""
    told = []
    for number, row in enumerate(rows):
        if row != "":
            told.append(hall_in(row) if len(told) == 0 else deed_in(row))
            if told[-1] is None:
                raise BadRow(number)
    return told


def answers(text):
    """The list of answers to the rows of a sheet."""
    rows = text.split("\n")
    told = read(rows)
    if len(told) == 0:
        raise BadRow(len(rows))
    rooms, wall = told[0]
    hall = Hall(rooms, wall=wall)
    return ["done"] + [answer(hall, deed) for deed in told[1:]]

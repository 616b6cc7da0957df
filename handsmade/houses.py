"""HOUSES: what is done in one makes another one of the same name, so the one ahead can be come back to."""

from handsmade.beats import beat_passed
from handsmade.deeds import done
from handsmade.glow import with_lights
from handsmade.ledger import sprung_by, stuff_in
from handsmade.standrows import BEAT
from handsmade.stands import put_at
from handsmade.strikes import struck

# The places of the books: stuff that a HOUSE began with, that sprang, was had, was sent, went to ash, was struck.
SPRUNG = 1
HAD = 2
SENT = 3
ASH = 4
STRUCK = 5


class House:
    """A HOUSE at one moment; it is never changed."""

    def __init__(self, name, stand, *, is_ready, comes, rows, books):
        self.name = name
        self.stand = stand
        self.is_ready = is_ready
        self.comes = comes
        self.rows = rows
        self.books = books


def new_house(works, name, stand, *, is_ready, rows):
    """A HOUSE in which nothing was done yet, OPEN where it is ready."""
    books = (stuff_in(works, stand), 0, 0, 0, 0, 0)
    return House(name, stand, is_ready=is_ready, comes=(), rows=rows, books=books)


def booked(books, place, many):
    """The books with so much stuff more in a place."""
    return put_at(books, place, books[place] + many)


def acted_in(house, stand, row, books):
    """The HOUSE behind a deed that closes it."""
    return House(house.name, stand, is_ready=False, comes=house.comes, rows=house.rows + (row,), books=books)


def done_in(works, house, deed, row):
    """The HOUSE behind a DEED."""
    behind = done(works, house.stand, deed)
    gone = stuff_in(works, house.stand) - stuff_in(works, behind)
    return acted_in(house, behind, row, booked(house.books, ASH, gone))


def struck_in(works, house, strike, row):
    """The HOUSE behind a STRIKE."""
    behind = struck(works, house.stand, strike)
    gone = stuff_in(works, house.stand) - stuff_in(works, behind)
    return acted_in(house, behind, row, booked(house.books, STRUCK, gone))


def beaten(works, house):
    """The HOUSE behind a BEAT."""
    behind, comes = beat_passed(works, house.stand)
    came = sprung_by(works, house.stand)
    gone = stuff_in(works, house.stand) + came - stuff_in(works, behind)
    return House(
        house.name, behind, is_ready=True, comes=house.comes + (comes,), rows=house.rows + (BEAT,),
        books=booked(booked(house.books, SPRUNG, came), ASH, gone),
    )


def sent_from(house, left, lot, row):
    """The HOUSE with what is LEFT behind a LOT."""
    return acted_in(house, left, row, booked(house.books, SENT, lot[2]))


def given(works, stand, lot):
    """The STAND with a LOT more, as far as the bounds let."""
    most, sheets, _, store = works[3]
    uses = tuple([min(there + many, most) for there, many in zip(stand[0], lot[0])])
    leaves = tuple([with_lights(there, lights)[:sheets] for there, lights in zip(stand[1], lot[1])])
    return (uses, leaves, min(stand[2] + lot[2], store)) + stand[3:]


def given_to(works, house, lot, row):
    """The HOUSE to which a LOT is given."""
    behind = given(works, house.stand, lot)
    over = stuff_in(works, house.stand) + lot[2] - stuff_in(works, behind)
    return acted_in(house, behind, row, booked(booked(house.books, HAD, lot[2]), ASH, over))


def ledger_in(works, house):
    """(begun, sprung, had, sent, ash, struck, there) of a HOUSE."""
    return house.books + (stuff_in(works, house.stand),)

"""Lots: the wheres that a row of heard strings leaves open, for any number of people."""

from housewardens.books import is_where
from housewardens.errors import CannotCome
from housewardens.houses import House
from housewardens.kinds import do_ascend
from housewardens.searches import all_met


def first_lot(book):
    """The lot that has the first where alone."""
    return (book.first,)


def is_lot(book, thing):
    """Whether any value is a lot of the book, the empty one too."""
    return isinstance(thing, tuple) and all([is_where(book, where) for where in thing]) and do_ascend(thing)


def lot_after(book, lot, face, heard):
    """The wheres to which choices lead from a lot at a face, at which just this is heard."""
    return House(book).lot_behind(lot, face, heard)


def answers(book, lot, face):
    """All pairs of what can be heard in a lot at a face and of the lot behind it, ascending."""
    return House(book).answers_of(lot, face)


def lots_along(ward, log):
    """The lots behind all beginnings of a log, the empty one and the log itself too."""
    house = House(ward.book)
    lots = [first_lot(ward.book)]
    state = 0
    for heard in log:
        lots.append(house.lot_behind(lots[-1], ward.device.shown[state], heard))
        state = ward.device.led(state, heard)
    return lots


def lot_behind(ward, log):
    """The lot behind a log, the empty one if the log cannot come."""
    return lots_along(ward, log)[-1]


def first_stand(ward):
    """The stand behind the empty log."""
    return first_lot(ward.book), 0


def leads_of_stand(ward, house, stand):
    """What can be heard in a stand, each with the stand behind it."""
    lot, state = stand
    pairs = house.answers_of(lot, ward.device.shown[state])
    return [(heard, (target, ward.device.led(state, heard))) for heard, target in pairs]


def stands_behind(ward, house, stand):
    """The stands to which what can be heard leads."""
    return [further for _, further in leads_of_stand(ward, house, stand)]


def stands_met(ward, *, most=60):
    """All stands, ascending; raises TooMany(most) if there are more than most."""
    house = House(ward.book)
    return tuple(sorted(all_met([first_stand(ward)], lambda stand: stands_behind(ward, house, stand), most)))


def lot_that_comes(ward, log):
    """The lot behind a log; raises CannotCome(place) if the log cannot come."""
    lots = lots_along(ward, log)
    if not lots[-1]:
        raise CannotCome(lots.index(()) - 1)
    return lots[-1]


def surely_there(ward, log):
    """The standings that are occupied in each where behind a log; raises CannotCome(place)."""
    lot = lot_that_comes(ward, log)
    return tuple([standing for standing in lot[0] if all([standing in where for where in lot])])


def perhaps_there(ward, log):
    """The standings that are occupied in some where behind a log; raises CannotCome(place)."""
    return tuple(sorted({standing for where in lot_that_comes(ward, log) for standing in where}))

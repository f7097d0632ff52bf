"""Sure lots: how soon it is sure that nobody is within, and how often."""

from housewardens.errors import NeverStays, NeverSure
from housewardens.houses import House
from housewardens.lots import first_stand, stands_behind, stands_met
from housewardens.rounds import Rounds, is_sure, rounds_toward


def is_sure_lot(book, lot):
    """Whether in no where of a lot an occupied standing is in a room."""
    return is_sure(book, lot)


def rounds_for(book, faces, *, harms=(), most=60):
    """The rounds of the first lot, None if it never becomes sure; raises TooMany(most)."""
    rounds = Rounds(book, faces, harms, most)
    return rounds.number.get(rounds.play.first)


def rounds_by_lot(book, faces, *, harms=(), most=60):
    """All lots that are met, ascending, each with its rounds, None if it never becomes sure; raises TooMany(most)."""
    rounds = Rounds(book, faces, harms, most)
    return tuple([(lot, rounds.number.get(lot)) for lot in sorted(rounds.lots)])


def face_for(book, faces, lot, *, harms=(), most=60):
    """The least safe face all of whose answers have less rounds than a lot that is met; None if the lot is sure.

    Raises TooMany(most), then NeverSure(paper).
    """
    rounds = Rounds(book, faces, harms, most)
    check_sure(rounds, lot)
    return rounds.face_toward(lot) if rounds.number[lot] > 0 else None


def check_sure(rounds, lot):
    """Raises NeverSure(paper) if a lot never becomes sure."""
    if lot not in rounds.number:
        raise NeverSure(rounds.never())


def surer(book, faces, *, harms=(), most=60):
    """A device that makes sure in as few rounds as can be; raises TooMany(most), then NeverSure(paper)."""
    rounds = Rounds(book, faces, harms, most)
    check_sure(rounds, rounds.play.first)
    return rounds.surer()


def rounds_by_stand(ward, most):
    """All stands of a ward, and the rounds of those behind which a sure lot always comes; raises TooMany(most)."""
    stands = stands_met(ward, most=most)
    house = House(ward.book)
    goals = [stand for stand in stands if is_sure(ward.book, stand[0])]
    return stands, rounds_toward(stands, lambda stand: [stands_behind(ward, house, stand)], goals)


def rounds_of(ward, *, most=60):
    """Behind how many ticks a sure lot comes along each log of a ward, None if never; raises TooMany(most)."""
    _, number = rounds_by_stand(ward, most)
    return number.get(first_stand(ward))


def gap_for(book, faces, *, harms=(), most=60):
    """The least gap with which some device stays sure, None if there is none; raises TooMany(most)."""
    return Rounds(book, faces, harms, most).gap()


def stayer(book, faces, *, harms=(), most=60):
    """A device that stays sure with as small gaps as can be; raises TooMany(most), then NeverStays(number)."""
    rounds = Rounds(book, faces, harms, most)
    gap = rounds.gap()
    if gap is None:
        raise NeverStays(len(rounds.lots))
    shown = rounds.faces_to_stay(gap)
    return rounds.play.device_along(rounds.play.lots_along(shown), shown, 0)


def gap_of(ward, *, most=60):
    """The most lots that are not sure one directly behind the other, None if without end; raises TooMany(most)."""
    stands, number = rounds_by_stand(ward, most)
    return max(number.values()) if len(number) == len(stands) else None

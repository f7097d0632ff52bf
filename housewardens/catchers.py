"""Catchers: whether any device, whatever it remembers, catches a guest in time."""

from housewardens.devices import Device
from housewardens.errors import Uncaught
from housewardens.kinds import do_ascend, is_number_from, is_tuple_of
from housewardens.rounds import rounds_lost
from housewardens.searches import all_met
from housewardens.visits import Stay, first_case, is_lot_of_cases


class Hunt:
    """A book, faces, a guest and a number of ticks: which faces are let, and what can be heard of them."""

    def __init__(self, book, faces, guest, ticks):
        self.book = book
        self.faces = faces
        self.guest = guest
        self.ticks = ticks
        self.stay = Stay(book, guest)
        self.first = (first_case(book),)

    def is_let(self, lot, face):
        """Whether a face is let in a lot: if it rings the guest came, otherwise it is not yet too late."""
        if self.faces[face][1]:
            return all([ticks > 0 for _, _, ticks in lot])
        return all([ticks < self.ticks for _, _, ticks in lot])

    def faces_let(self, lot):
        """The numbers of the faces that are let in a lot."""
        return [face for face in range(len(self.faces)) if self.is_let(lot, face)]

    def pairs_behind(self, lot, face):
        """What can be heard, and the lots behind it; nothing is asked behind a face that rings."""
        return () if self.faces[face][1] else self.stay.answers_of(lot, face)

    def targets(self, lot, face):
        """The lots behind a lot at a face."""
        return [target for _, target in self.pairs_behind(lot, face)]

    def rows_of(self, lot):
        """The lots behind a lot at each face that is let; a face that rings has none."""
        return [self.targets(lot, face) for face in self.faces_let(lot)]

    def lots_met(self, most):
        """All lots met by faces that are let and do not ring; raises TooMany(most) if these are more than most."""
        return all_met([self.first], lambda lot: [target for row in self.rows_of(lot) for target in row], most)


def verdict(hunt, most):
    """The paper that tells whether some device catches; raises TooMany(most)."""
    number = rounds_lost(hunt.lots_met(most), lambda lot: hunt.rows_of(lot))
    if hunt.first in number:
        return "unheard", tuple(sorted([(lot, number[lot]) for lot in number]))
    lots = all_met([hunt.first], lambda lot: hunt.targets(lot, good_face(hunt, number, lot)))
    numbers = {lot: state for state, lot in enumerate(lots)}
    shown = [good_face(hunt, number, lot) for lot in lots]
    steps = []
    for state, lot in enumerate(lots):
        steps += [(state, heard, numbers[target]) for heard, target in hunt.pairs_behind(lot, shown[state])]
    device = Device(tuple(shown), tuple(steps), tuple(range(len(lots))))
    return "caught", device, tuple(sorted([(lot, numbers[lot]) for lot in lots]))


def good_face(hunt, lost, lot):
    """A face that is let in a lot and never leads to one that is lost, if there is any."""
    faces = hunt.faces_let(lot)
    return [face for face in faces if not any([target in lost for target in hunt.targets(lot, face)])][0]


def can_catch(book, faces, guest, ticks, *, most=60):
    """Whether some device catches the guest within so many ticks; raises TooMany(most)."""
    return judge_guest(book, faces, guest, ticks, most=most)[0] == "caught"


def judge_guest(book, faces, guest, ticks, *, most=60):
    """A paper that some device catches the guest within so many ticks, or that none does; raises TooMany(most)."""
    return verdict(Hunt(book, faces, guest, ticks), most)


def catcher_of(book, faces, guest, ticks, *, most=60):
    """A device that catches the guest within so many ticks; raises TooMany(most), then Uncaught(paper)."""
    paper = judge_guest(book, faces, guest, ticks, most=most)
    if paper[0] == "unheard":
        raise Uncaught(paper)
    return paper[1]


def least_catch(book, faces, guest, ticks, *, most=60):
    """The least number of ticks, up to a greatest one, within which some device catches; raises TooMany(most)."""
    for number in range(1, ticks + 1):
        if can_catch(book, faces, guest, number, most=most):
            return number
    return None


def guest_holds(book, faces, guest, ticks, thing):
    """Whether any value is a paper that some device catches the guest within so many ticks, or that none does."""
    hunt = Hunt(book, faces, guest, ticks)
    if is_tuple_of(thing, 3) and thing[0] == "caught":
        return does_device_catch(hunt, thing[1], thing[2])
    if is_tuple_of(thing, 2) and thing[0] == "unheard":
        return are_unheard_rows(hunt, thing[1])
    return False


def is_row(hunt, thing):
    """Whether any value is a pair of a lot of cases and a number from 0 on."""
    if not is_tuple_of(thing, 2) or not is_lot_of_cases(hunt.book, hunt.guest, thing[0]):
        return False
    return is_number_from(thing[1], 0)


def are_rows(hunt, thing):
    """Whether any value is an ascending tuple of such pairs."""
    return isinstance(thing, tuple) and all([is_row(hunt, row) for row in thing]) and do_ascend(thing)


def does_device_catch(hunt, device, rows):
    """Whether any two values are a device that shows these faces, and rows that show that it catches."""
    if not isinstance(device, Device) or max(device.shown) >= len(hunt.faces) or not are_rows(hunt, rows):
        return False
    if not all([state < len(device) for _, state in rows]):
        return False
    known = set(rows)
    if (hunt.first, 0) not in known or not all([hunt.is_let(lot, device.shown[state]) for lot, state in rows]):
        return False
    for lot, state in rows:
        for heard, target in hunt.pairs_behind(lot, device.shown[state]):
            if (target, device.led(state, heard)) not in known:
                return False
    return True


def are_unheard_rows(hunt, thing):
    """Whether any value is rows that show that no device catches."""
    if not are_rows(hunt, thing):
        return False
    number = {lot: rounds for lot, rounds in thing}
    if len(number) < len(thing) or hunt.first not in number:
        return False
    return all([is_unheard(hunt, number, lot) for lot in number])


def is_unheard(hunt, number, lot):
    """Whether each face that is let in a lot leads to one with a lesser number; none that rings does."""
    return all([any([number.get(target, number[lot]) < number[lot] for target in row]) for row in hunt.rows_of(lot)])

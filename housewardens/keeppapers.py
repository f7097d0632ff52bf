"""Papers of keeping: whether any value shows that some device keeps harms, or that none does."""

from housewardens.devices import Device, silent_ticks
from housewardens.houses import House
from housewardens.keepers import LOST, SILENT
from housewardens.kinds import do_ascend, is_between, is_number_from, is_tuple_of
from housewardens.lots import first_stand, stands_behind
from housewardens.plays import Play
from housewardens.searches import all_met


def keeping_holds(book, faces, harms, thing, *, ears=None, choice=None):
    """Whether any value is a paper that some device keeps the harms, or that none does."""
    play = Play(book, faces, harms, ears, choice)
    if is_tuple_of(thing, 3) and thing[0] == "kept":
        return does_device_keep(play, thing[1], thing[2])
    if is_tuple_of(thing, 2) and thing[0] == "refused":
        return are_refused_rows(play, thing[1])
    return False


def does_device_keep(play, device, rows):
    """Whether any two values are a device that shows faces of the choice, and rows that show that it keeps."""
    if not isinstance(device, Device) or not all([face in play.choice for face in device.shown]):
        return False
    if not isinstance(rows, tuple) or not all([is_row_of(play, device, row) for row in rows]):
        return False
    if not do_ascend(rows) or not all([is_row_kept(play, device, row) for row in rows]):
        return False
    known = set(rows)
    if (play.first, 0) not in known:
        return False
    for lot, state in rows:
        for heard, target in play.house.answers_of(lot, device.shown[state]):
            if (target, device.led(state, heard)) not in known:
                return False
    return True


def is_row_of(play, device, thing):
    """Whether any value is a pair of a lot that is not empty and a state."""
    return is_tuple_of(thing, 2) and play.is_some_lot(thing[0]) and is_between(thing[1], 0, len(device) - 1)


def is_row_kept(play, device, row):
    """Whether the face of a row is safe, and an armed one comes in silence if the lot is waiting."""
    lot, state = row
    if device.shown[state] not in play.safe(lot):
        return False
    return not play.waits(lot) or silent_ticks(play.faces, device, state) is not None


def are_refused_rows(play, thing):
    """Whether any value is rows that show that no device keeps the harms."""
    if not isinstance(thing, tuple) or not all([is_refused_row(play, row) for row in thing]):
        return False
    if not do_ascend(thing):
        return False
    # Rows ascend: so the least number of each lot that is lost comes first.
    lost = {}
    for lot, number, kind in thing:
        if kind == LOST:
            lost.setdefault(lot, number)
    if play.first not in lost:
        return False
    silent = {(lot, number): True for lot, number, kind in thing if kind == SILENT}
    return all([is_row_refused(play, lost, silent, row) for row in thing])


def is_refused_row(play, thing):
    """Whether any value is a lot that is not empty, a number from 0 on, and a kind of rows."""
    if not is_tuple_of(thing, 3) or not play.is_some_lot(thing[0]):
        return False
    return is_number_from(thing[1], 0) and isinstance(thing[2], str) and thing[2] in (LOST, SILENT)


def is_row_refused(play, lost, silent, row):
    """Whether each safe face of a row fails, by the least numbers of lots that are lost and by silent rows."""
    lot, number, kind = row
    if kind == LOST and play.waits(lot) and (lot, number) in silent:
        return True
    for face in play.safe(lot):
        leads_to_lost = any([lost.get(target, number) < number for target in play.targets(lot, face)])
        if not leads_to_lost and (kind == LOST or not is_silent_for_ever(play, silent, row, face)):
            return False
    return True


def is_silent_for_ever(play, silent, row, face):
    """Whether a face is not armed, and silence behind it leads to a silent row, or to where none can be armed."""
    lot, number, _ = row
    if play.is_armed(face):
        return False
    target = play.silent_lot(lot, face)
    return (target, number) in silent if target else not play.can_arm


def rows_of_ward(ward, *, ears=None, most=60):
    """All pairs of a lot and a state that are met with the ward's device by ears; raises TooMany(most)."""
    house = House(ward.book, ears)
    return tuple(sorted(all_met([first_stand(ward)], lambda stand: stands_behind(ward, house, stand), most)))

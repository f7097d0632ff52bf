"""Plays: which faces are safe in a lot, and what can be met by showing some faces."""

from housewardens.books import has_somebody
from housewardens.devices import Device
from housewardens.houses import House
from housewardens.kinds import is_between
from housewardens.lots import first_lot, is_lot
from housewardens.searches import all_met


def safe_faces(book, faces, lot, harms, *, choice=None):
    """The numbers of the faces of a choice, None for all, that are safe in a lot for some harms."""
    within = any([has_somebody(book, where) for where in lot])
    unsafe = [number for number, face in enumerate(faces) if does_harm_at_once(face, lot, within, harms)]
    return tuple([number for number in faces_of_choice(faces, choice) if number not in unsafe])


def does_harm_at_once(face, lot, within, harms):
    """Whether a face is unsafe in a lot, perhaps with somebody within, for some harms."""
    armed, rings = face
    return ("shut" in harms and armed and within) or ("bell" in harms and rings and lot != ())


def faces_of_choice(faces, choice):
    """The numbers of a choice of faces, None for all."""
    return tuple(range(len(faces))) if choice is None else choice


def is_waiting(book, lot, harms):
    """Whether "open" is a harm and nobody may be within."""
    return "open" in harms and not all([has_somebody(book, where) for where in lot])


class Play:
    """A book, faces of a choice, harms and ears: what a device can show, and what it can hear of it."""

    def __init__(self, book, faces, harms, ears=None, choice=None):
        self.book = book
        self.faces = faces
        self.harms = harms
        self.choice = faces_of_choice(faces, choice)
        self.house = House(book, ears)
        self.first = first_lot(book)
        self.can_arm = any([faces[number][0] for number in self.choice])
        self._safe = {}

    def safe(self, lot):
        """The faces of the choice that are safe in a lot."""
        if lot not in self._safe:
            self._safe[lot] = safe_faces(self.book, self.faces, lot, self.harms, choice=self.choice)
        return self._safe[lot]

    def is_armed(self, face):
        """Whether a face is armed."""
        return self.faces[face][0]

    def waits(self, lot):
        """Whether a lot is waiting."""
        return is_waiting(self.book, lot, self.harms)

    def targets(self, lot, face):
        """The lots of the answers of a lot to a face."""
        return [target for _, target in self.house.answers_of(lot, face)]

    def silent_lot(self, lot, face):
        """The lot behind silence, the empty one if silence cannot come."""
        return self.house.lot_behind(lot, face, "")

    def lots_met(self, most=None):
        """All lots met by answers to all faces of the choice, safe or not; raises TooMany(most)."""
        return all_met([self.first], lambda lot: self.targets_of_all(lot), most)

    def targets_of_all(self, lot):
        """The lots of the answers of a lot to all faces of the choice."""
        return [target for face in self.choice for target in self.targets(lot, face)]

    def safe_targets(self, lot):
        """For each face that is safe in a lot the lots of its answers."""
        return [self.targets(lot, face) for face in self.safe(lot)]

    def is_some_lot(self, thing):
        """Whether any value is a lot of the book that is not empty."""
        return is_lot(self.book, thing) and thing != ()

    def is_safe(self, lot, thing):
        """Whether any value is the number of a face of the choice that is safe in a lot."""
        return is_between(thing, 0, len(self.faces) - 1) and thing in self.safe(lot)

    def lots_along(self, shown):
        """All lots met from the first one on by a device that shows a face in each, as long as one is told."""
        return all_met([self.first], lambda lot: self.targets(lot, shown[lot]) if lot in shown else [])

    def device_along(self, lots, shown, idle, loud=()):
        """The device whose states are lots, the first one ahead, that shows the told faces, elsewhere an idle one.

        Behind silence in some loud lots, in which silence cannot come, it shows an armed face for ever.
        """
        numbers = {lot: number for number, lot in enumerate(lots)}
        steps = []
        others = []
        for number, lot in enumerate(lots):
            pairs = self.house.answers_of(lot, shown[lot]) if lot in shown else ()
            silent = [numbers[target] for heard, target in pairs if heard == ""]
            others.append(len(lots) if lot in loud else (silent + [number])[0])
            steps += [(number, heard, numbers[target]) for heard, target in pairs if numbers[target] != others[-1]]
        faces = [shown.get(lot, idle) for lot in lots]
        if loud:
            faces.append([face for face in self.choice if self.is_armed(face)][0])
            others.append(len(lots))
        return Device(tuple(faces), tuple(steps), tuple(others))

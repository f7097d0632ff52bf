"""The office: wards that are kept under names, their editions and days, with undo and redo."""

from housewardens.alike import log_beside
from housewardens.books import is_heard
from housewardens.errors import (
    BadName,
    Harmful,
    NameTaken,
    NotAlike,
    NotHeard,
    NothingToRedo,
    NothingToUndo,
    NoWard,
)
from housewardens.kinds import HARMS, is_name
from housewardens.logs import can_come, state_behind
from housewardens.lots import lot_behind
from housewardens.wards import Ward, judge_ward


class Office:
    """Wards under names; each has its editions and its day."""

    def __init__(self):
        # By name a ward, the tuple of its editions, and its day; a change puts a new dict in the place of this one.
        self._wards = {}
        self._made = []
        self._undone = []

    def __len__(self):
        return len(self._made)

    @property
    def names_open(self):
        """The names of the open wards, ascending."""
        return tuple(sorted(self._wards))

    def _kept(self, name):
        """What is kept under a name; raises NoWard(name) for any value that is no name of an open ward."""
        if not is_name(name) or name not in self._wards:
            raise NoWard(name)
        return self._wards[name]

    def _change(self, wards):
        """Makes a change: other wards are kept from now on."""
        self._made.append(self._wards)
        self._undone = []
        self._wards = wards

    def _put(self, name, ward, editions, log):
        """Makes the change that this is kept under a name."""
        wards = {other: self._wards[other] for other in self._wards}
        wards[name] = (ward, editions, log)
        self._change(wards)

    def open_ward(self, name, ward):
        """Opens a ward under a name; raises BadName(name), then NameTaken(name)."""
        if not is_name(name):
            raise BadName(name)
        if name in self._wards:
            raise NameTaken(name)
        self._put(name, ward, (ward.device,), ())

    def close_ward(self, name):
        """Takes a ward away, with its editions and its day; raises NoWard(name)."""
        self._kept(name)
        self._change({other: self._wards[other] for other in self._wards if other != name})

    def hear(self, name, heard):
        """Puts a heard string behind the log; raises NoWard(name), then NotHeard(heard)."""
        ward, editions, log = self._kept(name)
        if not is_heard(heard) or not can_come(ward, (*log, heard)):
            raise NotHeard(heard)
        self._put(name, ward, editions, (*log, heard))

    def renew(self, name, device, *, most=60):
        """Makes a device the present edition, the day goes on.

        Raises NoWard(name), BadWard("device"), TooMany(most), NotAlike(log), then Harmful(paper).
        """
        ward, editions, log = self._kept(name)
        further = Ward(ward.book, ward.faces, device)
        parting = log_beside(ward, device, most=most)
        paper = paper_of_gate(ward, further, ("open",), most)
        if parting is not None:
            raise NotAlike(parting)
        if paper[0] == "harm":
            raise Harmful(paper)
        self._put(name, further, (*editions, device), log)

    def swap(self, name, device, *, most=60):
        """Makes a device the present edition, and a new day begin.

        Raises NoWard(name), BadWard("device"), TooMany(most), then Harmful(paper).
        """
        ward, editions, _ = self._kept(name)
        further = Ward(ward.book, ward.faces, device)
        paper = paper_of_gate(ward, further, HARMS, most)
        if paper[0] == "harm":
            raise Harmful(paper)
        self._put(name, further, (*editions, device), ())

    def undo(self):
        """Takes the last change back; raises NothingToUndo()."""
        if not self._made:
            raise NothingToUndo()
        self._undone.append(self._wards)
        self._wards = self._made.pop()

    def redo(self):
        """Makes the change again that was taken back last; raises NothingToRedo()."""
        if not self._undone:
            raise NothingToRedo()
        self._made.append(self._wards)
        self._wards = self._undone.pop()

    def ward_of(self, name):
        """The ward with the present device; raises NoWard(name)."""
        return self._kept(name)[0]

    def editions_of(self, name):
        """The devices since the ward was opened, the present one last; raises NoWard(name)."""
        return self._kept(name)[1]

    def day_of(self, name):
        """The log of what was heard; raises NoWard(name)."""
        return self._kept(name)[2]

    def lot_now(self, name):
        """The lot behind the day; raises NoWard(name)."""
        ward, _, log = self._kept(name)
        return lot_behind(ward, log)

    def face_now(self, name):
        """The number of the face that the present device shows behind the day; raises NoWard(name)."""
        ward, _, log = self._kept(name)
        return ward.device.shown[state_behind(ward.device, log)]


def paper_of_gate(ward, further, harms, most):
    """The paper for a further ward and those of some harms that a ward keeps; raises TooMany(most)."""
    kept = [harm for harm in harms if judge_ward(ward, (harm,), most=most)[0] == "kept"]
    return judge_ward(further, tuple(kept), most=most)

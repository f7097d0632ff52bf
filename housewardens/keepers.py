"""Keepers: whether any device, whatever it remembers, keeps some harms."""

from housewardens.errors import Refused
from housewardens.plays import Play

LOST = "lost"
SILENT = "silent"


class Keeping:
    """The lots from which some device keeps the harms; the others are taken out round by round."""

    def __init__(self, play, most):
        self.play = play
        self.rows = []
        self.left = {lot: True for lot in play.lots_met(most)}
        self.find_ways()
        number = 0
        while self.take_out(number) and play.first in self.left:
            self.find_ways()
            number += 1

    def find_ways(self):
        """Finds the good faces of the lots that are left, and how to come to an armed face in silence."""
        self.good = {lot: self.good_faces(lot) for lot in self.left}
        self.arming = {}
        if "open" in self.play.harms:
            fresh = self.that_arm()
            while fresh:
                for lot, face in fresh:
                    self.arming[lot] = face
                fresh = self.that_arm()

    def good_faces(self, lot):
        """The safe faces of a lot all of whose answers have lots that are left."""
        play = self.play
        return [face for face in play.safe(lot) if all([target in self.left for target in play.targets(lot, face)])]

    def that_arm(self):
        """Further lots, each with a good face that is armed or leads in silence to those that arm."""
        rows = [(lot, [face for face in self.good[lot] if self.does_arm(lot, face)]) for lot in self.left]
        return [(lot, faces[0]) for lot, faces in rows if faces and lot not in self.arming]

    def does_arm(self, lot, face):
        """Whether a face is armed, or leads in silence to a lot that is known to arm, or to where none can be."""
        if self.play.is_armed(face):
            return True
        silent = self.play.silent_lot(lot, face)
        return silent in self.arming if silent else self.play.can_arm

    def take_out(self, number):
        """Takes out the lots that are lost in this round, and tells why; whether there are any."""
        idle = [lot for lot in self.left if self.good[lot] and self.play.waits(lot) and lot not in self.arming]
        lost = idle + [lot for lot in self.left if not self.good[lot]]
        self.rows += [(lot, number, LOST) for lot in lost]
        self.rows += [(lot, number, SILENT) for lot in self.silent_behind(idle)]
        gone = {lot: True for lot in lost}
        self.left = {lot: True for lot in self.left if lot not in gone}
        return len(lost) > 0

    def silent_behind(self, idle):
        """Lots that never arm, and all those to which good faces lead from them in silence."""
        found = list(idle)
        at = 0
        while at < len(found):
            for face in self.good[found[at]]:
                silent = self.play.silent_lot(found[at], face)
                if silent and silent not in found:
                    found.append(silent)
            at += 1
        return found

    def does_keep(self):
        """Whether some device keeps the harms."""
        return self.play.first in self.left

    def verdict(self):
        """The paper that tells whether some device keeps the harms."""
        if not self.does_keep():
            return "refused", tuple(sorted(self.rows))
        play = self.play
        shown = {lot: self.arming.get(lot, self.good[lot][0]) for lot in self.left}
        lots = play.lots_along(shown)
        # Where the device has to arm and silence cannot come, it arms behind a silence that nobody hears.
        loud = [lot for lot in lots if lot in self.arming and not play.is_armed(shown[lot])]
        loud = [lot for lot in loud if not play.silent_lot(lot, shown[lot])]
        device = play.device_along(lots, shown, play.choice[0], loud)
        return "kept", device, tuple(sorted([(lot, number) for number, lot in enumerate(lots)]))


def can_keep(book, faces, harms, *, ears=None, choice=None, most=60):
    """Whether some device keeps the harms; raises TooMany(most)."""
    return Keeping(Play(book, faces, harms, ears, choice), most).does_keep()


def judge_keeping(book, faces, harms, *, ears=None, choice=None, most=60):
    """A paper that some device keeps the harms, or that none does; raises TooMany(most)."""
    return Keeping(Play(book, faces, harms, ears, choice), most).verdict()


def keeper_of(book, faces, harms, *, ears=None, choice=None, most=60):
    """A device that keeps the harms; raises TooMany(most), or Refused(paper) if there is none."""
    paper = judge_keeping(book, faces, harms, ears=ears, choice=choice, most=most)
    if paper[0] == "refused":
        raise Refused(paper)
    return paper[1]

"""Point [40] told again in the plainest way: a list of all that was kept, change by change."""

from housewardens.wards import Ward
from tests.helpers import HARMS, plain_harm, plain_led, plain_pictures
from tests.plain import plain_answers, plain_face, plain_state


def is_plain_name(thing):
    return type(thing) is str and 1 <= len(thing) <= 8 and set(thing) <= set("abcdefghijklmnopqrstuvwxyz")


def is_plain_heard(thing):
    return type(thing) is str and set(thing) <= set("abcdefghijklmnopqrstuvwxyz") and sorted(set(thing)) == list(thing)


def plain_lot(ward, log):
    """The lot behind a log."""
    lot, state = (ward.book.first,), 0
    for heard in log:
        lot = dict(plain_answers(ward.book, lot, ward.device.shown[state])).get(heard, ())
        state = plain_led(ward.device, state, heard)
    return lot


def plain_triples(ward, other):
    """The logs to all triples that are met, in the order of logs."""
    start = ((ward.book.first,), 0, 0)
    found = {start: ()}
    fresh = [start]
    while fresh:
        rows = []
        for lot, state, further in fresh:
            if ward.device.shown[state] == other.shown[further]:
                for heard, target in plain_answers(ward.book, lot, ward.device.shown[state]):
                    triple = (target, plain_led(ward.device, state, heard), plain_led(other, further, heard))
                    if triple not in found:
                        found[triple] = found[lot, state, further] + (heard,)
                        rows.append(triple)
        fresh = rows
    return found


def plain_kept(ward):
    """The harms that a ward keeps."""
    pictures = plain_pictures(ward)
    return tuple(harm for harm in HARMS if not any(plain_harm(ward, picture, harm) for picture in pictures))


class PlainOffice:
    """All that was kept behind each change, and how many of the changes are made; deeds tell the error by its name."""

    def __init__(self):
        self.kept = [{}]
        self.many = 0

    @property
    def now(self):
        return self.kept[self.many]

    def change(self, name, row):
        now = dict(self.now)
        if row is None:
            del now[name]
        else:
            now[name] = row
        self.kept = self.kept[: self.many + 1] + [now]
        self.many += 1

    def is_open(self, name):
        return type(name) is str and name in self.now

    def open_ward(self, name, ward):
        if not is_plain_name(name):
            return "BadName"
        if name in self.now:
            return "NameTaken"
        return self.change(name, (ward, (ward.device,), ()))

    def close_ward(self, name):
        return self.change(name, None) if self.is_open(name) else "NoWard"

    def hear(self, name, heard):
        if not self.is_open(name):
            return "NoWard"
        ward, editions, log = self.now[name]
        if not is_plain_heard(heard) or not plain_lot(ward, log + (heard,)):
            return "NotHeard"
        return self.change(name, (ward, editions, log + (heard,)))

    def gate(self, ward, further, harms, most):
        for some in (ward, further):
            if len(plain_pictures(some)) > most:
                return "TooMany"
        kept = set(harms) & set(plain_kept(ward))
        return None if kept <= set(plain_kept(further)) else "Harmful"

    def renew(self, name, device, most=60):
        if not self.is_open(name):
            return "NoWard"
        ward, editions, log = self.now[name]
        if max(device.shown) >= len(ward.faces):
            return "BadWard"
        triples = plain_triples(ward, device)
        if len(triples) > most:
            return "TooMany"
        further = Ward(ward.book, ward.faces, device)
        fault = self.gate(ward, further, ("open",), most)
        parts = any(ward.device.shown[state] != device.shown[other] for _, state, other in triples)
        if fault != "TooMany" and parts:
            return "NotAlike"
        return fault or self.change(name, (further, editions + (device,), log))

    def swap(self, name, device, most=60):
        if not self.is_open(name):
            return "NoWard"
        ward, editions, _ = self.now[name]
        if max(device.shown) >= len(ward.faces):
            return "BadWard"
        further = Ward(ward.book, ward.faces, device)
        return self.gate(ward, further, HARMS, most) or self.change(name, (further, editions + (device,), ()))

    def undo(self):
        if self.many == 0:
            return "NothingToUndo"
        self.many -= 1
        return None

    def redo(self):
        if self.many + 1 == len(self.kept):
            return "NothingToRedo"
        self.many += 1
        return None

    def told(self):
        """All that an office tells."""
        rows = []
        for name in sorted(self.now):
            ward, editions, log = self.now[name]
            rows.append((name, ward, editions, log, plain_lot(ward, log), plain_face(ward.device, log)))
        return self.many, tuple(sorted(self.now)), rows


def plain_first_parting(ward, device):
    """The first log that parts both devices beside the ward, or None."""
    triples = plain_triples(ward, device)
    logs = [log for (_, state, other), log in triples.items() if ward.device.shown[state] != device.shown[other]]
    return min(logs, key=lambda log: (len(log), log)) if logs else None


def plain_state_behind(ward, log):
    return plain_state(ward.device, log)

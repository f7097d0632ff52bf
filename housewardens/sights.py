"""What an onlooker notes of a run, and what is possible for it then."""

from housewardens.books import has_somebody, outcomes
from housewardens.crowds import Throng, first_pairs
from housewardens.errors import OtherFaces
from housewardens.houses import gathered, letters_among
from housewardens.wards import along, face_in, first_picture, log_of

TOLD_WORDS = ("empty", "somebody")


class Watch:
    """A ward and an onlooker; it keeps what can be noted. Raises OtherFaces() if both have not as many faces."""

    def __init__(self, ward, onlooker):
        if len(onlooker.classes) != len(ward.faces):
            raise OtherFaces()
        self.ward = ward
        self.onlooker = onlooker
        self._ways = {}

    def look(self, picture):
        """The class of the face that is shown in a picture, or in a pair of a crowd and a state."""
        return self.onlooker.classes[face_in(self.ward, picture)]

    def noted(self, state, heard, target):
        """What is noted of a tick from a state on: what is heard, and the class behind it; with what is behind it."""
        further = (target, self.ward.device.led(state, heard))
        return (letters_among(heard, self.onlooker.letters), self.look(further)), further

    def ways_on(self, picture):
        """By what can be noted of a tick from a picture on the pictures behind it."""
        if picture not in self._ways:
            where, state = picture
            rows = outcomes(self.ward.book, where, face_in(self.ward, picture))
            pairs = gathered([self.noted(state, heard, target) for heard, target in rows])
            self._ways[picture] = {note: targets for note, targets in pairs}
        return self._ways[picture]

    def notes(self, run):
        """The notes of a run."""
        looks = [self.look(picture) for picture in along(self.ward, run)]
        cuts = [letters_among(heard, self.onlooker.letters) for heard in log_of(self.ward, run)]
        return tuple(list(zip(looks, cuts))), looks[-1]

    def possible(self, run, starts, ways):
        """All that is possible behind a run, from some starts on by ways that are noted as those of the run."""
        ticks, last = self.notes(run)
        looks = [look for look, _ in ticks] + [last]
        found = starts
        for at, (_, cut) in enumerate(ticks):
            note = (cut, looks[at + 1])
            found = sorted({further for thing in found for further in ways(thing).get(note, ())})
        return tuple(found)

    def possible_pictures(self, run):
        """The pictures that are possible behind a run, ascending."""
        return self.possible(run, [first_picture(self.ward)], lambda picture: self.ways_on(picture))


class Count:
    """A watch of crowds of people."""

    def __init__(self, watch):
        self.watch = watch
        self.throng = Throng(watch.ward)
        self._ways = {}

    def ways_on(self, pair):
        """By what can be noted of a tick from a pair on the pairs behind it."""
        if pair not in self._ways:
            crowd, state = pair
            rows = self.throng.goings(crowd, face_in(self.watch.ward, pair))
            pairs = gathered([self.watch.noted(state, heard, target) for _, heard, target in rows])
            self._ways[pair] = {note: targets for note, targets in pairs}
        return self._ways[pair]


def notes_of(ward, onlooker, run):
    """The notes of a run; raises OtherFaces()."""
    return Watch(ward, onlooker).notes(run)


def do_look_alike(ward, onlooker, run, further):
    """Whether an onlooker has the same notes of two runs; raises OtherFaces()."""
    watch = Watch(ward, onlooker)
    return watch.notes(run) == watch.notes(further)


def possible_pictures(ward, onlooker, run):
    """The pictures that are possible for an onlooker behind a run, ascending; raises OtherFaces()."""
    return Watch(ward, onlooker).possible_pictures(run)


def knows_empty(ward, onlooker, run):
    """Whether an onlooker knows behind a run that nobody is in a room; raises OtherFaces()."""
    return do_tell(ward.book, "empty", possible_pictures(ward, onlooker, run))


def knows_somebody(ward, onlooker, run):
    """Whether an onlooker knows behind a run that somebody is in a room; raises OtherFaces()."""
    return do_tell(ward.book, "somebody", possible_pictures(ward, onlooker, run))


def do_tell(book, word, pictures):
    """Whether all of some pictures have nobody in a room, or all have somebody, as the word asks."""
    return all([has_somebody(book, where) == (word == "somebody") for where, _ in pictures])


def possible_crowds(ward, onlooker, run, many):
    """The pairs of so many people that are possible behind a run which so many make, ascending; raises OtherFaces()."""
    watch = Watch(ward, onlooker)
    count = Count(watch)
    return watch.possible(run, first_pairs(ward, many), lambda pair: count.ways_on(pair))

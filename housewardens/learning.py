"""Whether an onlooker ever learns that nobody, or somebody, is within."""

from housewardens.books import ways_on
from housewardens.houses import gathered
from housewardens.kinds import do_ascend, is_tuple_of
from housewardens.searches import all_met, first_ways
from housewardens.sights import Watch, do_tell
from housewardens.wards import first_picture, is_picture, is_run


class Study:
    """A watch whose lots of pictures lead on; it keeps what it worked out. Raises OtherFaces() as a watch does."""

    def __init__(self, ward, onlooker):
        self.watch = Watch(ward, onlooker)
        self.ward = ward
        self.first = (first_picture(ward),)
        self._lots = {}
        self._goings = {}

    def lots_by_note(self, lot):
        """By what can be noted of a tick from a lot on the lot behind it."""
        if lot not in self._lots:
            rows = [self.watch.ways_on(picture) for picture in lot]
            pairs = gathered([(note, target) for ways in rows for note in ways for target in ways[note]])
            self._lots[lot] = {note: targets for note, targets in pairs}
        return self._lots[lot]

    def lots_behind(self, lot):
        """The lots that come behind a lot."""
        return list(self.lots_by_note(lot).values())

    def lots_met(self, most):
        """All lots that come from the first one; raises TooMany(most) if these are more than most."""
        return all_met([self.first], lambda lot: self.lots_behind(lot), most)

    def goings(self, picture):
        """What can be noted of a tick from a picture and the picture behind it, with the first choice for both."""
        if picture not in self._goings:
            where, state = picture
            found = {}
            for choice, heard, target in ways_on(self.ward.book, where, self.ward.device.shown[state]):
                found.setdefault(self.watch.noted(state, heard, target), choice)
            self._goings[picture] = [(choice, *noted) for noted, choice in found.items()]
        return self._goings[picture]

    def leads(self, node):
        """The first choices from a lot and a picture of it, each with the lot and the picture behind it."""
        lot, picture = node
        behind = self.lots_by_note(lot)
        return [(choice, (behind[note], further)) for choice, note, further in self.goings(picture)]

    def first_run(self, word, lots):
        """The first run behind which the word is known, or None, by all lots that come."""
        book = self.ward.book
        if not any([do_tell(book, word, lot) for lot in lots]):
            return None

        def leads(node):
            # A longer run is not asked for: so nothing leads on from where the word is known.
            return [] if do_tell(book, word, node[0]) else self.leads(node)

        runs = first_ways((self.first, first_picture(self.ward)), leads)
        return [run for (lot, _), run in runs.items() if do_tell(book, word, lot)][0]


def lots_of_pictures(ward, onlooker, *, most=60):
    """All lots of pictures that come from the first one, ascending; raises OtherFaces(), then TooMany(most)."""
    return tuple(sorted(Study(ward, onlooker).lots_met(most)))


def first_learned(ward, onlooker, word, *, most=60):
    """The first run behind which an onlooker knows the word, or None; raises OtherFaces(), then TooMany(most)."""
    study = Study(ward, onlooker)
    return study.first_run(word, study.lots_met(most))


def judge_learned(ward, onlooker, word, *, most=60):
    """A paper that an onlooker learns the word, or never does; raises OtherFaces(), then TooMany(most)."""
    study = Study(ward, onlooker)
    lots = study.lots_met(most)
    run = study.first_run(word, lots)
    return ("never", tuple(sorted(lots))) if run is None else ("learns", run)


def learned_holds(ward, onlooker, word, thing):
    """Whether any value is a paper that an onlooker learns the word, or never does; raises OtherFaces()."""
    study = Study(ward, onlooker)
    if not is_tuple_of(thing, 2):
        return False
    if thing[0] == "learns":
        return is_run(ward, thing[1]) and do_tell(ward.book, word, study.watch.possible_pictures(thing[1]))
    return thing[0] == "never" and are_lots_that_never_tell(study, word, thing[1])


def is_lot_of_pictures(watch, thing):
    """Whether any value is an ascending tuple of one or more pictures whose faces have one class."""
    if not isinstance(thing, tuple) or not all([is_picture(watch.ward, picture) for picture in thing]):
        return False
    return do_ascend(thing) and len({watch.look(picture) for picture in thing}) == 1


def are_lots_that_never_tell(study, word, thing):
    """Whether any value is an ascending tuple of lots that is closed, with the first one, none of which tells."""
    if not isinstance(thing, tuple) or not all([is_lot_of_pictures(study.watch, lot) for lot in thing]):
        return False
    if not do_ascend(thing) or any([do_tell(study.ward.book, word, lot) for lot in thing]):
        return False
    known = set(thing)
    if study.first not in known:
        return False
    for lot in thing:
        for further in study.lots_behind(lot):
            if further not in known:
                return False
    return True

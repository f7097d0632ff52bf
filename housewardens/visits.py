"""Visits: the goings of people and of a guest together, and the cases that a log leaves open."""

from housewardens.books import choices, heard_of, is_choice, is_where, letters_once, outcomes, where_behind
from housewardens.guests import guest_goes, guest_moves
from housewardens.houses import gathered
from housewardens.kinds import AWAY, do_ascend, is_between, is_integer, is_number_from, is_tuple_of


def ticks_behind(guest, ticks, standing):
    """The ticks of a case behind a tick that leads the guest to a standing."""
    return ticks if guest.rooms[standing] == AWAY else ticks + 1


class Stay:
    """A book and a guest; it keeps what it worked out. Ticks above a greatest number, if any, are put to it."""

    def __init__(self, book, guest, greatest=None):
        self.book = book
        self.guest = guest
        self.greatest = greatest
        self._places = {}
        self._answers = {}

    def places(self, where, standing, face):
        """By what is heard the places, of people and of the guest, to which a tick leads."""
        key = (where, standing, face)
        if key not in self._places:
            goings = [guest_goes(self.guest, standing, move) for move in guest_moves(self.guest, standing, face)]
            rows = [(*pair, *going) for pair in outcomes(self.book, where, face) for going in goings]
            pairs = gathered([(letters_once(heard + further), (target, goal)) for heard, target, further, goal in rows])
            self._places[key] = {heard: places for heard, places in pairs}
        return self._places[key]

    def case_in(self, place, ticks):
        """The case in a place to which a tick leads from a case with so many ticks."""
        ticks = ticks_behind(self.guest, ticks, place[1])
        return (*place, ticks if self.greatest is None else min(ticks, self.greatest))

    def cases_led_to(self, case, face, heard):
        """The cases to which ticks lead from a case at a face if just this is heard."""
        where, standing, ticks = case
        return [self.case_in(place, ticks) for place in self.places(where, standing, face).get(heard, ())]

    def leads(self, case, face):
        """All pairs of what can be heard in a case at a face and of a case behind it."""
        strings = list(self.places(case[0], case[1], face))
        return [(heard, target) for heard in strings for target in self.cases_led_to(case, face, heard)]

    def answers_of(self, cases, face):
        """The pairs of what can be heard in some cases at a face and of the lot of cases behind it, ascending."""
        if (cases, face) not in self._answers:
            self._answers[cases, face] = gathered([pair for case in cases for pair in self.leads(case, face)])
        return self._answers[cases, face]

    def lot_behind(self, cases, face, heard):
        """The lot of cases behind some cases at a face if just this is heard, the empty one if it cannot be."""
        return tuple(sorted({target for case in cases for target in self.cases_led_to(case, face, heard)}))


def first_case(book):
    """The case with the first standings, the guest being away."""
    return book.first, 0, 0


def is_case(book, guest, thing):
    """Whether any value is a case, whether or not it can come."""
    if not is_tuple_of(thing, 3) or not is_where(book, thing[0]):
        return False
    return is_between(thing[1], 0, len(guest) - 1) and is_number_from(thing[2], 0)


def is_lot_of_cases(book, guest, thing):
    """Whether any value is an ascending tuple of one or more cases."""
    if not isinstance(thing, tuple) or not all([is_case(book, guest, case) for case in thing]):
        return False
    return len(thing) > 0 and do_ascend(thing)


def cases_after(book, guest, cases, face, heard):
    """The lot of cases behind some cases at a face if just this is heard, the empty one if it cannot be."""
    return Stay(book, guest).lot_behind(cases, face, heard)


def case_answers(book, guest, cases, face):
    """All pairs of what can be heard in some cases at a face and of the lot of cases behind it, ascending."""
    return Stay(book, guest).answers_of(cases, face)


def cases_behind(ward, guest, log):
    """The lot of cases behind a log, whether faces ring or not; the empty one if the log cannot come."""
    stay = Stay(ward.book, guest)
    cases = (first_case(ward.book),)
    state = 0
    for heard in log:
        cases = stay.lot_behind(cases, ward.device.shown[state], heard)
        state = ward.device.led(state, heard)
    return cases


def first_sight(ward):
    """The sight with the first case and the state 0."""
    return first_case(ward.book), 0


def is_sight(ward, guest, thing):
    """Whether any value is a pair of a case and a state."""
    if not is_tuple_of(thing, 2) or not is_case(ward.book, guest, thing[0]):
        return False
    return is_between(thing[1], 0, len(ward.device) - 1)


def is_made(ward, guest, sight, thing):
    """Whether any value is a pair of a choice of people and a move of the guest in a sight."""
    if not is_tuple_of(thing, 2):
        return False
    choice, move = thing
    (where, standing, _), state = sight
    face = ward.device.shown[state]
    return is_choice(ward.book, where, face, choice) and is_integer(move) and move in guest_moves(guest, standing, face)


def goes(ward, guest, sight, made):
    """What is heard in a sight of what is made, and the next sight."""
    choice, move = made
    (where, standing, ticks), state = sight
    further, goal = guest_goes(guest, standing, move)
    heard = letters_once(heard_of(ward.book, choice) + further)
    target = where_behind(ward.book, where, ward.device.shown[state], choice)
    return heard, ((target, goal, ticks_behind(guest, ticks, goal)), ward.device.led(state, heard))


def is_visit(ward, guest, thing):
    """Whether any value is a visit of the ward and the guest."""
    if not isinstance(thing, tuple):
        return False
    sight = first_sight(ward)
    for made in thing:
        if not is_made(ward, guest, sight, made):
            return False
        _, sight = goes(ward, guest, sight, made)
    return True


def sights_along(ward, guest, visit):
    """All sights of a visit, the first one too."""
    sights = [first_sight(ward)]
    for made in visit:
        _, sight = goes(ward, guest, sights[-1], made)
        sights.append(sight)
    return tuple(sights)


def visit_log(ward, guest, visit):
    """What is heard in a visit, tick by tick."""
    sights = sights_along(ward, guest, visit)
    return tuple([goes(ward, guest, sight, made)[0] for sight, made in zip(sights, visit)])


def visit_along(ward, guest, steps):
    """A visit in which this is heard, tick by tick, and these places are come to; steps are pairs of both."""
    sight = first_sight(ward)
    visit = []
    for step in steps:
        made, sight = first_made(ward, guest, sight, step)
        visit.append(made)
    return tuple(visit)


def first_made(ward, guest, sight, step):
    """What is made in a sight so that this is heard and leads to this place, and the sight behind it."""
    heard, place = step
    (where, standing, _), state = sight
    face = ward.device.shown[state]
    moves = guest_moves(guest, standing, face)
    for made in [(choice, move) for choice in choices(ward.book, where, face) for move in moves]:
        letters, further = goes(ward, guest, sight, made)
        if letters == heard and further[0][:2] == place:
            return made, further
    return None

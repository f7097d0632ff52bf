"""Days: the runs, the crowds and the people that a log leaves open."""

from housewardens.books import ways_on
from housewardens.crowds import Throng, first_crowds
from housewardens.enough import is_crowd
from housewardens.houses import House
from housewardens.kinds import do_ascend, is_tuple_of
from housewardens.logs import faces_shown
from housewardens.lots import lots_along
from housewardens.walks import can_make
from housewardens.wards import is_run, log_of


def run_of_log(ward, log, where):
    """The first run that makes a log and leads to a where, or None."""
    faces = faces_shown(ward.device, log)
    ways = wheres_toward(ward, log, where)
    if not ways[0]:
        return None
    run = []
    place = ward.book.first
    for at, heard in enumerate(log):
        rows = ways_on(ward.book, place, faces[at])
        made = [(choice, target) for choice, letters, target in rows if letters == heard and target in ways[at + 1]]
        choice, place = made[0]
        run.append(choice)
    return tuple(run)


def wheres_toward(ward, log, where):
    """For each beginning of a log the wheres behind it from which the rest of it leads to a where."""
    house = House(ward.book)
    faces = faces_shown(ward.device, log)
    lots = lots_along(ward, log)
    found = [[place for place in lots[-1] if place == where]]
    for at in range(len(log) - 1, -1, -1):
        goals = [(log[at], goal) for goal in found[-1]]
        found.append([place for place in lots[at] if do_meet(house.ways_from(place, faces[at]), goals)])
    return found[::-1]


def do_meet(row, other):
    """Whether two rows have a part in common."""
    return any([part in other for part in row])


def crowds_along(ward, log, many):
    """The crowds of so many people that are possible behind each beginning of a log, ascending."""
    throng = Throng(ward)
    faces = faces_shown(ward.device, log)
    found = [first_crowds(ward, many)]
    for at, heard in enumerate(log):
        found.append(crowds_hearing(throng, found[-1], faces[at], heard))
    return tuple(found)


def crowds_hearing(throng, crowds, face, heard):
    """The crowds to which ticks lead from some crowds at a face, at which just this is heard, ascending."""
    rows = [row for crowd in crowds for row in throng.goings(crowd, face)]
    return tuple(sorted({further for _, letters, further in rows if letters == heard}))


def crowds_of_log(ward, log, many):
    """The crowds of so many people that are possible behind a log, ascending."""
    return crowds_along(ward, log, many)[-1]


def people_of_log(ward, log, *, greatest=6):
    """The least number of people who can make a log, or None if none from 0 to the greatest can."""
    for many in range(greatest + 1):
        if crowds_of_log(ward, log, many):
            return many
    return None


def judge_day(ward, log, many):
    """A paper that just so many people can make a log, or that they cannot."""
    crowds = crowds_along(ward, log, many)
    return ("run", run_of_crowds(ward, log, crowds)) if crowds[-1] else ("closed", crowds)


def run_of_crowds(ward, log, crowds):
    """A run that makes a log and leads from crowd to crowd."""
    throng = Throng(ward)
    faces = faces_shown(ward.device, log)
    run = []
    goal = crowds[-1][0]
    for at in range(len(log) - 1, -1, -1):
        rows = [(crowd, row) for crowd in crowds[at] for row in throng.goings(crowd, faces[at])]
        made = [(crowd, choice) for crowd, (choice, heard, further) in rows if heard == log[at] and further == goal]
        goal, choice = made[0]
        run.append(choice)
    return tuple(run[::-1])


def day_holds(ward, log, many, thing):
    """Whether any value is a paper that just so many people can make a log, or that they cannot."""
    if not is_tuple_of(thing, 2):
        return False
    if thing[0] == "run":
        return is_run(ward, thing[1]) and log_of(ward, thing[1]) == log and can_make(ward, thing[1], many)
    return thing[0] == "closed" and are_closed_crowds(ward, log, many, thing[1])


def are_closed_crowds(ward, log, many, thing):
    """Whether any value is ascending tuples of crowds, closed, for each beginning of a log, the last one empty."""
    if not is_tuple_of(thing, len(log) + 1) or not all([are_crowds(ward.book, many, row) for row in thing]):
        return False
    if thing[-1] != () or not are_all_among(first_crowds(ward, many), thing[0]):
        return False
    throng = Throng(ward)
    faces = faces_shown(ward.device, log)
    behind = [crowds_hearing(throng, thing[at], faces[at], heard) for at, heard in enumerate(log)]
    return all([are_all_among(row, thing[at + 1]) for at, row in enumerate(behind)])


def are_crowds(book, many, thing):
    """Whether any value is an ascending tuple, perhaps empty, of crowds of so many people."""
    return isinstance(thing, tuple) and all([is_crowd(book, many, crowd) for crowd in thing]) and do_ascend(thing)


def are_all_among(row, other):
    """Whether all crowds of a row are in another one."""
    known = {crowd: True for crowd in other}
    return all([crowd in known for crowd in row])

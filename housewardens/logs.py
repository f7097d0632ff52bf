"""Logs: rows of heard strings, and what they lead to."""

from housewardens.books import is_heard
from housewardens.houses import House
from housewardens.lots import first_stand, leads_of_stand, lot_behind
from housewardens.searches import first_ways


def is_log(thing):
    """Whether any value is a log."""
    return isinstance(thing, tuple) and all([is_heard(heard) for heard in thing])


def states_along(device, log):
    """The states behind all beginnings of a log, the empty one and the log itself too."""
    states = [0]
    for heard in log:
        states.append(device.led(states[-1], heard))
    return states


def state_behind(device, log):
    """The state of the device behind a log, whether or not it can come."""
    return states_along(device, log)[-1]


def faces_shown(device, log):
    """The numbers of the faces shown behind all beginnings of a log."""
    return tuple([device.shown[state] for state in states_along(device, log)])


def can_come(ward, log):
    """Whether a log can come."""
    return lot_behind(ward, log) != ()


def logs_that_come(ward, length):
    """Yields all logs of a length that can come, ascending, each as soon as it is found."""
    house = House(ward.book)
    # What is still to be lengthened, the first one last: each beginning that can come leads to some log.
    rows = [((), first_stand(ward))]
    while rows:
        log, stand = rows.pop()
        if len(log) == length:
            yield log
        else:
            leads = leads_of_stand(ward, house, stand)
            rows += [((*log, heard), further) for heard, further in leads[::-1]]


def first_log(ward, where, *, most=60):
    """The first log behind which a where is in the lot, or None; raises TooMany(most) as stands_met does."""
    house = House(ward.book)
    logs = first_ways(first_stand(ward), lambda stand: leads_of_stand(ward, house, stand), most)
    found = [log for stand, log in logs.items() if where in stand[0]]
    return found[0] if found else None

"""Devices that are alike for all logs, or for all logs of a house, and the least ones."""

from housewardens.devices import Device
from housewardens.houses import House
from housewardens.kinds import LETTERS, do_ascend, is_between, is_tuple_of
from housewardens.logs import faces_shown, is_log
from housewardens.lots import first_lot, is_lot, lot_behind
from housewardens.searches import first_ways


def heard_next(heard):
    """The heard string behind another one, as strings are ordered; behind the last one there is none."""
    if heard[-1:] == LETTERS[-1]:
        heard = heard[:-1]
        return heard[:-1] + LETTERS[LETTERS.find(heard[-1]) + 1]
    return heard + LETTERS[LETTERS.find(heard[-1]) + 1 if heard else 0]


def first_beside(named):
    """The first heard string that is not among some."""
    heard = ""
    while heard in named:
        heard = heard_next(heard)
    return heard


def heard_by_state(device):
    """For each state of a device the heard strings of its steps."""
    found = {state: [] for state in range(len(device))}
    for state, heard, _ in device.steps:
        found[state].append(heard)
    return found


def with_one_beside(named):
    """Some heard strings and the first other one, which stands for all others; ascending."""
    return sorted(set(named + [first_beside(named)]))


def first_ways_of_both(one, other):
    """The first log to each pair of states to which one log leads two devices."""
    ones = heard_by_state(one)
    others = heard_by_state(other)

    def leads(pair):
        strings = with_one_beside(ones[pair[0]] + others[pair[1]])
        return [(heard, (one.led(pair[0], heard), other.led(pair[1], heard))) for heard in strings]

    return first_ways((0, 0), leads)


def parting_log(one, other):
    """The first log behind which two devices show unlike faces, or None."""
    logs = first_ways_of_both(one, other)
    found = [log for (state, further), log in logs.items() if one.shown[state] != other.shown[further]]
    return found[0] if found else None


def are_alike(one, other):
    """Whether two devices show the same faces behind all logs."""
    return parting_log(one, other) is None


def heard_in_steps(device):
    """All heard strings of the steps of a device, ascending."""
    return sorted({heard for _, heard, _ in device.steps})


def kinds_of_states(device):
    """For each state a number, the same one for those behind which all logs show the same faces."""
    strings = heard_in_steps(device)
    kinds = list(device.shown)
    many = 0
    while many < len(set(kinds)):
        many = len(set(kinds))
        numbers = {}
        rows = []
        for state, other in enumerate(device.others):
            rows.append((kinds[state], kinds[other], *[kinds[device.led(state, heard)] for heard in strings]))
            numbers.setdefault(rows[-1], len(numbers))
        kinds = [numbers[row] for row in rows]
    return kinds


def least_device(device):
    """The device that is alike to a device and has as few states as can be, numbered by their first logs."""
    kinds = kinds_of_states(device)
    strings = heard_in_steps(device)

    def leads(kind):
        state = kinds.index(kind)
        return [(heard, kinds[device.led(state, heard)]) for heard in with_one_beside(strings)]

    order = list(first_ways(kinds[0], leads))
    numbers = {kind: number for number, kind in enumerate(order)}
    states = [kinds.index(kind) for kind in order]
    others = [numbers[kinds[device.others[state]]] for state in states]
    steps = []
    for number, state in enumerate(states):
        targets = [(heard, numbers[kinds[device.led(state, heard)]]) for heard in strings]
        steps += [(number, heard, target) for heard, target in targets if target != others[number]]
    return Device(tuple([device.shown[state] for state in states]), tuple(steps), tuple(others))


def do_show_alike(ward, other, triple):
    """Whether the ward's device and another one show the same face in a triple of a lot and their states."""
    _, state, further = triple
    return ward.device.shown[state] == other.shown[further]


def leads_of_triple(ward, other, house, triple):
    """What can be heard in a triple, each with the triple behind it; nothing where the faces are unlike."""
    if not do_show_alike(ward, other, triple):
        return []
    lot, state, further = triple
    pairs = house.answers_of(lot, ward.device.shown[state])
    return [(heard, (target, ward.device.led(state, heard), other.led(further, heard))) for heard, target in pairs]


def first_ways_beside(ward, other, most):
    """The first log to each triple that is met; raises TooMany(most) if these are more than most."""
    house = House(ward.book)
    start = (first_lot(ward.book), 0, 0)
    return first_ways(start, lambda triple: leads_of_triple(ward, other, house, triple), most)


def log_among(ward, other, logs):
    """The first one of the logs to some triples that parts both devices, or None."""
    found = [log for triple, log in logs.items() if not do_show_alike(ward, other, triple)]
    return found[0] if found else None


def log_beside(ward, other, *, most=60):
    """The first log that parts the ward's device and another one beside the ward, or None; raises TooMany(most)."""
    return log_among(ward, other, first_ways_beside(ward, other, most))


def are_alike_beside(ward, other, *, most=60):
    """Whether a device is alike to the ward's beside the ward; raises TooMany(most) as log_beside does."""
    return log_beside(ward, other, most=most) is None


def judge_alike(ward, other, *, most=60):
    """A paper that a device is alike to the ward's beside it, or is not; raises TooMany(most) as log_beside does."""
    logs = first_ways_beside(ward, other, most)
    log = log_among(ward, other, logs)
    return ("alike", tuple(sorted(logs))) if log is None else ("parted", log)


def alike_holds(ward, other, thing):
    """Whether any value is a paper that a device is alike to the ward's beside it, or is not."""
    if not is_tuple_of(thing, 2):
        return False
    if thing[0] == "parted":
        return does_part(ward, other, thing[1])
    return thing[0] == "alike" and are_rows_alike(ward, other, thing[1])


def does_part(ward, other, thing):
    """Whether any value is a log that parts both devices beside the ward."""
    if not is_log(thing) or not lot_behind(ward, thing):
        return False
    return faces_shown(ward.device, thing)[-1] != faces_shown(other, thing)[-1]


def is_triple(ward, other, thing):
    """Whether any value is a lot that is not empty, a state of the ward's device and one of another device."""
    if not is_tuple_of(thing, 3) or not is_lot(ward.book, thing[0]) or not thing[0]:
        return False
    return is_between(thing[1], 0, len(ward.device) - 1) and is_between(thing[2], 0, len(other) - 1)


def are_rows_alike(ward, other, thing):
    """Whether any value is an ascending tuple of triples that is closed, has the first one, and like faces."""
    if not isinstance(thing, tuple) or not all([is_triple(ward, other, row) for row in thing]):
        return False
    if not do_ascend(thing) or not all([do_show_alike(ward, other, row) for row in thing]):
        return False
    house = House(ward.book)
    known = set(thing)
    if (first_lot(ward.book), 0, 0) not in known:
        return False
    for row in thing:
        for _, further in leads_of_triple(ward, other, house, row):
            if further not in known:
                return False
    return True

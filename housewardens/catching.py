"""Catching: whether a device rings when a guest came, in time and not too early; and doubts."""

from housewardens.kinds import do_ascend, is_tuple_of
from housewardens.searches import all_met, check_many, first_ways
from housewardens.visits import Stay, first_case, first_sight, is_sight, is_visit, sights_along, visit_along, visit_log


def does_ring(ward, sight):
    """Whether the face that is shown in a sight rings."""
    return ward.faces[ward.device.shown[sight[1]]][1]


def is_early(ward, sight):
    """Whether the bell rings in a sight though nobody came."""
    return does_ring(ward, sight) and sight[0][2] == 0


def is_late(ward, ticks, sight):
    """Whether the bell does not ring in a sight though somebody was in a room for so many ticks."""
    return not does_ring(ward, sight) and sight[0][2] >= ticks


def leads_within(ward, stay, ticks, sight):
    """What is heard in a sight and the place behind it, with that sight; none if it rings, or has so many ticks."""
    case, state = sight
    if does_ring(ward, sight) or case[2] >= ticks:
        return []
    pairs = stay.leads(case, ward.device.shown[state])
    return [((heard, target[:2]), (target, ward.device.led(state, heard))) for heard, target in pairs]


def sights_met(ward, guest, ticks, most):
    """All sights up to the bell, or to so many ticks; raises TooMany(most) if these are more than most."""
    stay = Stay(ward.book, guest)

    def behind(sight):
        return [further for _, further in leads_within(ward, stay, ticks, sight)]

    return all_met([first_sight(ward)], behind, most)


def does_catch(ward, guest, ticks, *, most=300):
    """Whether the ward's device catches the guest within so many ticks; raises TooMany(most)."""
    return least_ticks(ward, guest, ticks, most=most) is not None


def least_ticks(ward, guest, ticks, *, most=300):
    """The least number of ticks, up to a greatest one, within which the guest is caught; raises TooMany(most)."""
    sights = sights_met(ward, guest, ticks, most)
    if any([is_early(ward, sight) or is_late(ward, ticks, sight) for sight in sights]):
        return None
    # Ticks grow one by one: within each lesser number some sight that does not ring comes too late.
    return 1 + max([case[2] for case, state in sights if not does_ring(ward, (case, state))])


def judge_catching(ward, guest, ticks, *, most=300):
    """A paper that the guest is caught within so many ticks, or of a visit that is not; raises TooMany(most)."""
    sights = sights_met(ward, guest, ticks, most)
    early = [sight for sight in sights if is_early(ward, sight)]
    late = [sight for sight in sights if is_late(ward, ticks, sight)]
    if not early and not late:
        return "catches", tuple(sorted(sights))
    stay = Stay(ward.book, guest)
    steps = first_ways(first_sight(ward), lambda sight: leads_within(ward, stay, ticks, sight))
    visit = visit_along(ward, guest, steps[(early + late)[0]])
    return ("early", visit) if early else ("late", visit)


def catching_holds(ward, guest, ticks, thing):
    """Whether any value is a paper that the guest is caught within so many ticks, or that it is not."""
    if not is_tuple_of(thing, 2):
        return False
    word, rest = thing
    if word == "catches":
        return are_catching_sights(ward, guest, ticks, rest)
    if (word != "early" and word != "late") or not is_visit(ward, guest, rest):
        return False
    sights = sights_along(ward, guest, rest)
    if do_any_ring(ward, sights[:-1]):
        return False
    return is_early(ward, sights[-1]) if word == "early" else is_late(ward, ticks, sights[-1])


def do_any_ring(ward, sights):
    """Whether the face of some sight rings."""
    return any([does_ring(ward, sight) for sight in sights])


def are_catching_sights(ward, guest, ticks, thing):
    """Whether any value is an ascending tuple of sights that is closed, with the first one, none early or late."""
    if not isinstance(thing, tuple) or not all([is_sight(ward, guest, sight) for sight in thing]):
        return False
    if not do_ascend(thing) or any([is_early(ward, sight) or is_late(ward, ticks, sight) for sight in thing]):
        return False
    stay = Stay(ward.book, guest)
    known = set(thing)
    if first_sight(ward) not in known:
        return False
    for sight in thing:
        for _, further in leads_within(ward, stay, ticks, sight):
            if further not in known:
                return False
    return True


def logs_to_lots(ward, stay, most):
    """The first log without a bell to each lot of cases with a state; raises TooMany(most) by the lots alone."""
    lots = {}

    def leads(node):
        cases, state = node
        lots[cases] = True
        check_many(len(lots), most)
        if does_ring(ward, node):
            return []
        pairs = stay.answers_of(cases, ward.device.shown[state])
        return [(heard, (target, ward.device.led(state, heard))) for heard, target in pairs]

    return first_ways(((first_case(ward.book),), 0), leads)


def doubt_of(ward, guest, ticks, *, most=60):
    """A doubt for so many ticks, or None; raises TooMany(most)."""
    stay = Stay(ward.book, guest, ticks)
    logs = logs_to_lots(ward, stay, most)
    for node in logs:
        free = [case for case in node[0] if case[2] == 0]
        due = [case for case in node[0] if case[2] >= ticks]
        if free and due and not does_ring(ward, node):
            return visit_to(ward, stay, logs[node], free[0]), visit_to(ward, stay, logs[node], due[0])
    return None


def visit_to(ward, stay, log, case):
    """A visit that has a log and leads to a case."""
    ways = [{first_case(ward.book): None}]
    state = 0
    for heard in log:
        face = ward.device.shown[state]
        ways.append({target: some for some in ways[-1] for target in stay.cases_led_to(some, face, heard)})
        state = ward.device.led(state, heard)
    steps = []
    for at in range(len(log) - 1, -1, -1):
        steps.append((log[at], case[:2]))
        case = ways[at + 1][case]
    return visit_along(ward, stay.guest, steps[::-1])


def doubt_holds(ward, guest, ticks, thing):
    """Whether any value is a doubt for so many ticks."""
    if not is_tuple_of(thing, 2) or not all([is_visit(ward, guest, visit) for visit in thing]):
        return False
    if visit_log(ward, guest, thing[0]) != visit_log(ward, guest, thing[1]):
        return False
    rows = [sights_along(ward, guest, visit) for visit in thing]
    if any([do_any_ring(ward, sights) for sights in rows]):
        return False
    return rows[0][-1][0][2] == 0 and rows[1][-1][0][2] >= ticks

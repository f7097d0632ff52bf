"""Part 8 of the document told again in the plainest way, and the books of its examples."""

import itertools

from housewardens.books import Book
from housewardens.devices import Device
from housewardens.guests import Guest
from housewardens.wards import Ward
from tests.helpers import plain_choices, plain_led, plain_tick, plain_wheres, some_ascending, some_device
from tests.plain import do_ascend, is_number

CALM = Book((0,), ((0, 0, "", (0, 1, 2), (), ()), (0, 0, "a", (0, 1, 2), (), ())), (0,))
BELLS = ((False, False), (False, True), (True, False))
THIEF = Guest((-1, 3), ((0, 1, "a", (0, 1, 2)), (1, 1, "c", (2,))))
# It comes in, is heard there, and goes again.
PASSER = Guest((-1, 0), ((0, 1, "", (0, 1, 2)), (1, 0, "b", (0, 1, 2))))
# It is heard as nobody else is, as soon as it comes in.
LOUD_GUEST = Guest((-1, 2), ((0, 1, "g", (0, 1, 2)), (1, 1, "g", (0, 1, 2))))
SILENT_GUEST = Guest((-1, 0), ((0, 1, "", (0, 1, 2)),))
NEVER_WITHIN = Guest((-1, -1), ((0, 1, "g", (0, 1, 2)), (1, 0, "", (0,))))
NO_MOVES = Guest((-1,), ())
# Rings for ever behind the first c, and shows face 2 in the tick behind each a.
CATCHER = Device((0, 2, 1), ((0, "a", 1), (1, "a", 1), (1, "ac", 2), (1, "c", 2)), (0, 0, 2))
CAUGHT_WARD = Ward(CALM, BELLS, CATCHER)


def some_guest(rng, standings=3, moves=4, letters="abg"):
    """A small guest."""
    rooms = (-1, *[rng.choice((-1, 0, 0, 1)) for _ in range(rng.randint(0, standings - 1))])
    rows = []
    for _ in range(rng.randint(0, moves)):
        heard = "".join(some_ascending(rng, list(letters), 2))
        faces = rng.choice(((0, 1, 2), (0, 1, 2), (0, 2), (1,), ()))
        rows.append((rng.randrange(len(rooms)), rng.randrange(len(rooms)), heard, faces))
    return Guest(rooms, tuple(rows))


def some_comer(rng):
    """A small guest who can come in, heard as people are, or not at all."""
    rooms = (-1, 0, *rng.choice(((), (-1,), (1,))))
    rows = [(0, 1, rng.choice(("", "a", "b", "g")), rng.choice(((0, 1, 2), (0, 1, 2), (0,))))]
    for _ in range(rng.randint(0, 3)):
        ends = (rng.randrange(len(rooms)), rng.randrange(len(rooms)))
        rows.append((*ends, rng.choice(("", "a", "b", "g")), rng.choice(((0, 1, 2), (0, 1, 2), (0, 2), (2,)))))
    return Guest(rooms, tuple(rows))


def some_guarded(rng):
    """A small ward and a guest: few people, faces that ring and that do not."""
    moves = []
    many = rng.randint(1, 2)
    for _ in range(rng.randint(1, 4)):
        heard = "".join(some_ascending(rng, list("ab"), 1))
        faces = rng.choice(((0, 1, 2), (0, 1, 2), (0, 1), (2,)))
        moves.append((rng.randrange(many), rng.randrange(many), heard, faces, (), ()))
    book = Book(tuple(rng.choice((-1, 0)) for _ in range(many)), tuple(moves), (rng.randrange(many),))
    faces = rng.choice((BELLS, BELLS, ((False, False), (False, True)), ((False, False), (False, False), (True, True))))
    return Ward(book, faces, some_device(rng, faces)), some_comer(rng) if rng.random() < 0.8 else some_guest(rng)


def plain_moves(guest, standing, face):
    """The moves of a guest, -1 for staying put."""
    rows = [at for at, move in enumerate(guest.moves) if move[0] == standing and face in move[3]]
    return rows if rows and standing else [-1, *rows]


def plain_case_ticks(book, guest, case, face):
    """All ticks of a case: what is made, what is heard, the case behind it."""
    where, standing, ticks = case
    for choice in plain_choices(book, where, face):
        heard, target = plain_tick(book, where, face, choice)
        for move in plain_moves(guest, standing, face):
            _, goal, letters, _ = guest.moves[move] if move >= 0 else (standing, standing, "", ())
            both = "".join(sorted(set(heard) | set(letters)))
            yield (choice, move), both, (target, goal, ticks + (guest.rooms[goal] >= 0))


def plain_sight_ticks(ward, guest, sight):
    """All ticks of a sight."""
    case, state = sight
    for made, heard, further in plain_case_ticks(ward.book, guest, case, ward.device.shown[state]):
        yield made, heard, (further, plain_led(ward.device, state, heard))


def plain_visits(ward, guest, length):
    """All visits of a length, each with its log and its sights."""
    rows = [((), (), (((ward.book.first, 0, 0), 0),))]
    for _ in range(length):
        rows = [
            (visit + (made,), log + (heard,), sights + (further,))
            for visit, log, sights in rows
            for made, heard, further in plain_sight_ticks(ward, guest, sights[-1])
        ]
    return rows


def plain_answers_of_cases(book, guest, cases, face):
    """All answers of some cases."""
    found = {}
    for case in cases:
        for _, heard, further in plain_case_ticks(book, guest, case, face):
            found.setdefault(heard, set()).add(further)
    return tuple((heard, tuple(sorted(found[heard]))) for heard in sorted(found))


def plain_rings(ward, sight):
    return ward.faces[ward.device.shown[sight[1]]][1]


def plain_sights_met(ward, guest, ticks):
    """All sights that are met up to the bell, or to so many ticks."""
    found, fresh = set(), {((ward.book.first, 0, 0), 0)}
    while fresh:
        found |= fresh
        going = [sight for sight in fresh if not plain_rings(ward, sight) and sight[0][2] < ticks]
        fresh = {further for sight in going for _, _, further in plain_sight_ticks(ward, guest, sight)} - found
    return found


def is_fault(ward, ticks, sight):
    """Whether the bell rings too early in a sight, or does not though it is late."""
    return sight[0][2] == 0 if plain_rings(ward, sight) else sight[0][2] >= ticks


def plain_catches(ward, guest, ticks):
    return not any(is_fault(ward, ticks, sight) for sight in plain_sights_met(ward, guest, ticks))


def plain_clipped_lots(ward, guest, ticks):
    """All lots of cases with a state that are met without a bell, ticks above a number put to it."""
    found, fresh = set(), {(((ward.book.first, 0, 0),), 0)}
    while fresh:
        found |= fresh
        rows = set()
        for cases, state in fresh:
            if not ward.faces[ward.device.shown[state]][1]:
                for heard, lot in plain_answers_of_cases(ward.book, guest, cases, ward.device.shown[state]):
                    clipped = tuple(sorted({(where, standing, min(many, ticks)) for where, standing, many in lot}))
                    rows.add((clipped, plain_led(ward.device, state, heard)))
        fresh = rows - found
    return found


def is_plain_case(book, guest, thing):
    if type(thing) is not tuple or len(thing) != 3 or type(thing[0]) is not tuple:
        return False
    if any(type(part) is not int for part in thing[0]) or thing[0] not in plain_wheres(book):
        return False
    return is_number(thing[1], 0, len(guest.rooms) - 1) and is_number(thing[2], 0)


def is_plain_lot_of_cases(book, guest, thing):
    return type(thing) is tuple and thing != () and all(is_plain_case(book, guest, c) for c in thing) and do_ascend(thing)


def plain_way(ward, guest, thing):
    """The log and the sights of any value that is a visit, else None."""
    if type(thing) is not tuple:
        return None
    log, sights = (), (((ward.book.first, 0, 0), 0),)
    for made in thing:
        if type(made) is not tuple or len(made) != 2 or type(made[0]) is not tuple or type(made[1]) is not int:
            return None
        if any(type(move) is not int for move in made[0]):
            return None
        ways = {other: (heard, further) for other, heard, further in plain_sight_ticks(ward, guest, sights[-1])}
        if made not in ways:
            return None
        log += (ways[made][0],)
        sights += (ways[made][1],)
    return log, sights


def is_plain_catching(ward, guest, ticks, thing):
    """Whether any value is a paper of [32]."""
    if type(thing) is not tuple or len(thing) != 2 or type(thing[0]) is not str:
        return False
    if thing[0] in ("early", "late"):
        way = plain_way(ward, guest, thing[1])
        if way is None or any(plain_rings(ward, sight) for sight in way[1][:-1]):
            return False
        last = way[1][-1]
        if thing[0] == "early":
            return plain_rings(ward, last) and last[0][2] == 0
        return not plain_rings(ward, last) and last[0][2] >= ticks
    if thing[0] != "catches" or type(thing[1]) is not tuple:
        return False
    for sight in thing[1]:
        if type(sight) is not tuple or len(sight) != 2 or not is_plain_case(ward.book, guest, sight[0]):
            return False
        if not is_number(sight[1], 0, len(ward.device.shown) - 1) or is_fault(ward, ticks, sight):
            return False
    if not do_ascend(thing[1]) or ((ward.book.first, 0, 0), 0) not in thing[1]:
        return False
    going = [sight for sight in thing[1] if not plain_rings(ward, sight)]
    return all(row[2] in thing[1] for sight in going for row in plain_sight_ticks(ward, guest, sight))


def is_plain_doubt(ward, guest, ticks, thing):
    """Whether any value is a doubt."""
    if type(thing) is not tuple or len(thing) != 2:
        return False
    ways = [plain_way(ward, guest, visit) for visit in thing]
    if None in ways or ways[0][0] != ways[1][0]:
        return False
    if any(plain_rings(ward, sight) for _, sights in ways for sight in sights):
        return False
    return ways[0][1][-1][0][2] == 0 and ways[1][1][-1][0][2] >= ticks


def plain_let(faces, ticks, lot, face):
    """Whether a face is let in a lot of cases."""
    if faces[face][1]:
        return 0 not in [case[2] for case in lot]
    return max(case[2] for case in lot) < ticks


def plain_rows_of(book, faces, guest, ticks, lot):
    """For each face that is let in a lot the lots behind it, none for one that rings."""
    rows = []
    for face in range(len(faces)):
        if plain_let(faces, ticks, lot, face):
            pairs = () if faces[face][1] else plain_answers_of_cases(book, guest, lot, face)
            rows.append([target for _, target in pairs])
    return rows


def plain_lots_of_cases(book, faces, guest, ticks, most=10**9):
    """All lots of cases that are met by faces that are let and do not ring; None if these are more than most."""
    found, fresh = set(), {((book.first, 0, 0),)}
    while fresh:
        found |= fresh
        if len(found) > most:
            return None
        rows = [row for lot in fresh for row in plain_rows_of(book, faces, guest, ticks, lot)]
        fresh = {target for row in rows for target in row} - found
    return found


def plain_can_catch(book, faces, guest, ticks):
    """Whether some device catches: lots are taken out as long as any cannot go on."""
    left = plain_lots_of_cases(book, faces, guest, ticks)
    while True:
        gone = {
            lot
            for lot in left
            if not any(set(row) <= left for row in plain_rows_of(book, faces, guest, ticks, lot))
        }
        if not gone:
            return ((book.first, 0, 0),) in left
        left -= gone


def is_plain_guest(book, faces, guest, ticks, thing):
    """Whether any value is a paper of [34]."""
    if type(thing) is not tuple or not thing or type(thing[0]) is not str:
        return False
    if (thing[0], len(thing)) not in (("caught", 3), ("unheard", 2)) or type(thing[-1]) is not tuple:
        return False
    rows = thing[-1]
    for row in rows:
        if type(row) is not tuple or len(row) != 2 or not is_plain_lot_of_cases(book, guest, row[0]):
            return False
        if not is_number(row[1], 0):
            return False
    if not do_ascend(rows):
        return False
    if thing[0] == "caught":
        return is_plain_caught(book, faces, guest, ticks, thing[1], rows)
    number = dict(rows)
    if len(number) < len(rows) or ((book.first, 0, 0),) not in number:
        return False
    for lot in number:
        for row in plain_rows_of(book, faces, guest, ticks, lot):
            if not any(target in number and number[target] < number[lot] for target in row):
                return False
    return True


def is_plain_caught(book, faces, guest, ticks, device, rows):
    if type(device) is not Device or not set(device.shown) <= set(range(len(faces))):
        return False
    if any(state >= len(device.shown) for _, state in rows) or (((book.first, 0, 0),), 0) not in rows:
        return False
    for lot, state in rows:
        face = device.shown[state]
        if not plain_let(faces, ticks, lot, face):
            return False
        if not faces[face][1]:
            for heard, target in plain_answers_of_cases(book, guest, lot, face):
                if (target, plain_led(device, state, heard)) not in rows:
                    return False
    return True


def closed_sights(ward, guest, ticks, sights):
    """Some sights with all to which they lead before the bell and so many ticks."""
    found, fresh = set(), set(sights)
    while fresh:
        found |= fresh
        going = [sight for sight in fresh if not plain_rings(ward, sight) and sight[0][2] < ticks]
        fresh = {further for sight in going for _, _, further in plain_sight_ticks(ward, guest, sight)} - found
    return found


def all_sights(ward, guest, ticks):
    """All sights with less than so many ticks, or just as many, whether or not they can come."""
    cases = itertools.product(plain_wheres(ward.book), range(len(guest.rooms)), range(ticks + 1))
    return [(case, state) for case in cases for state in range(len(ward.device.shown))]

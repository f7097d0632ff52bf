"""Parts 2 to 7 of the document told again in the plainest way, for small books; and the books of its examples."""

import itertools

from housewardens.books import Book
from housewardens.devices import Device
from housewardens.guests import Guest
from housewardens.onlookers import Onlooker
from housewardens.wards import Ward
from tests.helpers import FACES, exact, plain_choices, plain_led, plain_open, plain_tick, plain_ticks, plain_wheres

BOTH_FACES = (0, 1)
CLOCKED = Book(
    (-1, 0),
    (
        (0, 0, "", (0, 1), (), ()),
        (0, 1, "a", (0, 1), (), ()),
        (1, 0, "b", (0, 1), (), ()),
        (1, 1, "c", (0, 1), (), ()),
    ),
    (0,),
)
DOOR = Book(
    (0, -1),
    (
        (0, 0, "", (0,), (), ()),
        (0, 1, "d", (0, 1), (), ()),
        (1, 0, "d", (0,), (), ()),
        (1, 1, "", (0, 1), (), ()),
    ),
    (0,),
)
QUIET = Book(
    (-1, 0),
    (
        (0, 0, "", (0, 1), (), ()),
        (0, 1, "a", (0, 1), (), ()),
        (1, 0, "", (0, 1), (), ()),
        (1, 1, "", (0, 1), (), ()),
    ),
    (0,),
)
NOOK = Book(
    (-1, 0, 1),
    (
        (0, 0, "", (0, 1), (), ()),
        (0, 1, "a", (0, 1), (), ()),
        (1, 0, "", (0, 1), (), ()),
        (1, 2, "", (0, 1), (), ()),
        (2, 2, "c", (0, 1), (), ()),
    ),
    (0,),
)
# The hall in which whoever stays there, or goes on to room 1, is heard.
LOUD_HALL = Book(
    (-1, 0, 1),
    (
        (1, 0, "a", (0,), (1,), ()),
        (1, 1, "b", (0, 1), (), ()),
        (1, 2, "b", (0, 1), (), ()),
        (2, 1, "", (0, 1), (), ()),
    ),
    (1,),
)
ALL_SAFE = ((False, False), (False, False))
THIEF = Guest((-1, 3), ((0, 1, "a", (0, 1, 2)), (1, 1, "c", (2,))))
OPEN_SHUT = ("open", "shut")

BUSY_MOVES = (
    (0, 0, "", (0, 1, 2), (), ()),
    (0, 1, "a", (0, 1), (), ()),
    (1, 1, "b", (0, 1, 2), (), ()),
    (1, 2, "ab", (1, 2), (), ()),
    (2, 2, "c", (0, 2), (), ()),
    (2, 3, "", (0, 1, 2), (), ()),
    (3, 3, "ac", (0, 1, 2), (), ()),
    (3, 0, "b", (0, 1), (), ()),
)
BUSY = Book((0, 1, 2, -1), BUSY_MOVES, (0, 2))
THREE_FACES = ((False, False), (True, False), (False, True))


def counting_device(letters, many, faces=1):
    """A device that counts the ticks in which just these letters are heard, up to a number."""
    shown = tuple(state % faces for state in range(many))
    steps = tuple((state, letters, min(state + 1, many - 1)) for state in range(many))
    return Device(shown, steps, tuple(range(many)))


def some_leaving_book(rng):
    """A small book in which people leave and come, so that an open house has to be armed in time."""
    rooms = (0, -1, *rng.choice(((), (1,), (-1,), (0, -1))))
    moves = []
    for _ in range(rng.randint(2, 7)):
        origin = rng.randrange(len(rooms))
        looks = [(), ()]
        if rng.random() < 0.25:
            looks[rng.randrange(2)] = tuple({0, 1} - {rooms[origin]})[:1]
        heard = rng.choice(("", "", "a", "b", "ab", "c"))
        moves.append((origin, rng.randrange(len(rooms)), heard, rng.choice(((0, 1), (0, 1), (0,), (1,))), *looks))
    return Book(rooms, tuple(moves), (rng.randrange(len(rooms)),))


def told(thing):
    """A text of a value, objects by their texts, that tells apart what is equal but of another kind."""
    if isinstance(thing, (Book, Device, Guest, Ward)):
        return f"{thing.__class__.__name__}<{thing}>"
    if isinstance(thing, Onlooker):
        return f"Onlooker<{thing.letters!r}, {thing.classes}>"
    if isinstance(thing, (tuple, list)):
        return f"{thing.__class__.__name__}({','.join(told(part) for part in thing)})"
    if isinstance(thing, dict):
        return f"dict({','.join(told(pair) for pair in thing.items())})"
    return repr(thing)


def do_ascend(row):
    return all(one < other for one, other in zip(row, row[1:]))


def is_number(thing, low, high=10**50):
    return type(thing) is int and low <= thing <= high


# Part 2.


def plain_first_crowds(ward, many):
    """The crowds in which so many people begin."""
    rows = itertools.product(range(many + 1), repeat=len(ward.book.rooms))
    return tuple(row for row in rows if many and sum(row) == many and where_of(row) == ward.book.first)


def where_of(crowd):
    return tuple(standing for standing, many in enumerate(crowd) if many)


def plain_goings(ward, pair):
    """All that so many people can do in a tick, each by itself: choice, and the pair behind it."""
    crowd, state = pair
    where = where_of(crowd)
    face = ward.device.shown[state]
    people = [standing for standing, many in enumerate(crowd) for _ in range(many)]
    numbers = plain_open(ward.book, where, face)
    ways = [[number for number in numbers if ward.book.moves[number][0] == standing] or [-1] for standing in people]
    found = set()
    for made in itertools.product(*ways):
        choice = tuple(sorted(set(made) - {-1}))
        heard = "".join(sorted({letter for number in choice for letter in ward.book.moves[number][2]}))
        further = [0] * len(crowd)
        for standing, number in zip(people, made):
            further[standing if number == -1 else ward.book.moves[number][1]] += 1
        found.add((choice, (tuple(further), plain_led(ward.device, state, heard))))
    return found


def plain_crowds_met(ward, many):
    found, fresh = set(), {(crowd, 0) for crowd in plain_first_crowds(ward, many)}
    while fresh:
        found |= fresh
        fresh = {further for pair in fresh for _, further in plain_goings(ward, pair)} - found
    return tuple(sorted(found))


def plain_pairs_along(ward, run, many):
    """The pairs of so many people who made a run."""
    pairs = {(crowd, 0) for crowd in plain_first_crowds(ward, many)}
    for choice in run:
        pairs = {further for pair in pairs for made, further in plain_goings(ward, pair) if made == choice}
    return pairs


def plain_fewest(ward, run):
    many = 1
    while not plain_pairs_along(ward, run, many):
        many += 1
    return many


# Part 3.


def plain_cut(heard, ears):
    return heard if ears is None else "".join(letter for letter in heard if letter in ears)


def plain_answers(book, lot, face, ears=None):
    """All answers, by all choices of all wheres."""
    found = {}
    for where in lot:
        for choice in plain_choices(book, where, face):
            heard, target = plain_tick(book, where, face, choice)
            found.setdefault(plain_cut(heard, ears), set()).add(target)
    return tuple((heard, tuple(sorted(found[heard]))) for heard in sorted(found))


def plain_lots_met(book, faces, ears=None, most=200):
    """All lots met by answers to some faces; None if these are more than most."""
    found, fresh = set(), {(book.first,)}
    while fresh:
        found |= fresh
        if len(found) > most:
            return None
        fresh = {target for lot in fresh for face in faces for _, target in plain_answers(book, lot, face, ears)}
        fresh -= found
    return tuple(sorted(found))


def plain_stands(ward, ears=None):
    found, fresh = set(), {((ward.book.first,), 0)}
    while fresh:
        found |= fresh
        fresh = {
            (target, plain_led(ward.device, state, heard))
            for lot, state in fresh
            for heard, target in plain_answers(ward.book, lot, ward.device.shown[state], ears)
        } - found
    return tuple(sorted(found))


def plain_runs_of(ward, length):
    """All runs of a length, each with its log and its last picture."""
    rows = [((), (), (ward.book.first, 0))]
    for _ in range(length):
        rows = [
            (run + (choice,), log + (heard,), further)
            for run, log, picture in rows
            for choice, heard, further in plain_ticks(ward, picture)
        ]
    return rows


def plain_state(device, log):
    state = 0
    for heard in log:
        state = plain_led(device, state, heard)
    return state


def plain_face(device, log):
    return device.shown[plain_state(device, log)]


def is_plain_lot(book, thing):
    """Whether any value is a lot."""
    rights = {exact(where) for where in plain_wheres(book)}
    return type(thing) is tuple and all(exact(where) in rights for where in thing) and do_ascend(thing)


# Parts 4 and 5.


def has_within(book, lot):
    return any(book.rooms[standing] >= 0 for where in lot for standing in where)


def plain_safe(book, faces, lot, harms, choice=None):
    found = []
    for number in range(len(faces)) if choice is None else choice:
        armed, rings = faces[number]
        if "shut" in harms and armed and has_within(book, lot):
            continue
        if "bell" in harms and rings and lot:
            continue
        found.append(number)
    return tuple(found)


def plain_waiting(book, lot, harms):
    return "open" in harms and any(not has_within(book, (where,)) for where in lot)


def plain_silent(book, lot, face, ears=None):
    return dict(plain_answers(book, lot, face, ears)).get("", ())


def plain_can_keep(book, faces, harms, ears=None, choice=None):
    """Whether some device keeps, asked as a play in which the device promises when it is armed in silence.

    A place is a lot and how many silent ticks are left until an armed face has to be shown, None if none is owed;
    places are taken out as long as any cannot go on.
    """
    numbers = tuple(range(len(faces))) if choice is None else choice
    lots = plain_lots_met(book, numbers, ears)
    owed = [None, *range(len(lots) + 1)]
    left = {(lot, due) for lot in lots for due in owed}
    can_arm = any(faces[number][0] for number in numbers)
    while True:
        gone = {place for place in left if not goes_on(book, faces, harms, ears, numbers, can_arm, left, owed, place)}
        if not gone:
            return ((book.first,), None) in left
        left -= gone


def goes_on(book, faces, harms, ears, numbers, can_arm, left, owed, place):
    lot, due = place
    dues = owed[1:] if due is None and plain_waiting(book, lot, harms) else [due]
    for face in plain_safe(book, faces, lot, harms, numbers):
        for some in dues:
            armed = faces[face][0]
            if some == 0 and not armed:
                continue
            rest = None if armed or some is None else some - 1
            pairs = plain_answers(book, lot, face, ears)
            if rest is not None and "" not in dict(pairs) and not can_arm:
                continue
            if all((target, rest if heard == "" else None) in left for heard, target in pairs):
                return True
    return False


def is_plain_keeping(book, faces, harms, thing, ears=None, choice=None):
    """Whether any value is a paper of part 4, by its words."""
    if type(thing) is not tuple or not thing or type(thing[0]) is not str:
        return False
    numbers = tuple(range(len(faces))) if choice is None else choice
    if thing[0] == "kept" and len(thing) == 3:
        return is_plain_kept(book, faces, harms, thing[1], thing[2], ears, numbers)
    if thing[0] == "refused" and len(thing) == 2:
        return is_plain_refused(book, faces, harms, thing[1], ears, numbers)
    return False


def is_plain_kept(book, faces, harms, device, rows, ears, numbers):
    if type(device) is not Device or not set(device.shown) <= set(numbers) or type(rows) is not tuple:
        return False
    for row in rows:
        if type(row) is not tuple or len(row) != 2 or not is_plain_lot(book, row[0]) or not row[0]:
            return False
        if not is_number(row[1], 0, len(device.shown) - 1):
            return False
    if not do_ascend(rows) or ((book.first,), 0) not in rows:
        return False
    for lot, state in rows:
        face = device.shown[state]
        if face not in plain_safe(book, faces, lot, harms, numbers):
            return False
        for heard, target in plain_answers(book, lot, face, ears):
            if (target, plain_led(device, state, heard)) not in rows:
                return False
        states = [state]
        for _ in range(len(device.shown)):
            states.append(plain_led(device, states[-1], ""))
        if plain_waiting(book, lot, harms) and not any(faces[device.shown[some]][0] for some in states):
            return False
    return True


def is_plain_refused(book, faces, harms, rows, ears, numbers):
    if type(rows) is not tuple:
        return False
    for row in rows:
        if type(row) is not tuple or len(row) != 3 or not is_plain_lot(book, row[0]) or not row[0]:
            return False
        if not is_number(row[1], 0) or type(row[2]) is not str or row[2] not in ("lost", "silent"):
            return False
    if not do_ascend(rows) or not any(lot == (book.first,) and kind == "lost" for lot, _, kind in rows):
        return False
    can_arm = any(faces[number][0] for number in numbers)
    for lot, number, kind in rows:
        fails = []
        for face in plain_safe(book, faces, lot, harms, numbers):
            pairs = dict(plain_answers(book, lot, face, ears))
            lost = any(t == row[0] and row[2] == "lost" and row[1] < number for t in pairs.values() for row in rows)
            if kind == "silent" and not faces[face][0]:
                lost = lost or ("" in pairs and (pairs[""], number, "silent") in rows)
                lost = lost or ("" not in pairs and not can_arm)
            fails.append(lost)
        if kind == "lost" and plain_waiting(book, lot, harms) and (lot, number, "silent") in rows:
            continue
        if not all(fails):
            return False
    return True


# Part 6.


def plain_rounds(book, faces, harms, lots):
    """The rounds of all lots, by the words of the document: n of them, for n from 1 on."""
    found = {lot: 0 for lot in lots if not has_within(book, lot)}
    for number in range(1, len(lots) + 1):
        for lot in lots:
            for face in plain_safe(book, faces, lot, harms):
                rows = [found.get(target, number) for _, target in plain_answers(book, lot, face)]
                if lot not in found and max(rows) < number:
                    found[lot] = number
    return found


def plain_stays(book, faces, harms, gap, lots):
    """Whether some device stays sure with such gaps: places are taken out as long as any cannot go on."""
    left = {(lot, span) for lot in lots for span in range(gap + 1) if (span == 0) != has_within(book, lot)}
    while True:
        gone = set()
        for lot, span in left:
            ways = []
            for face in plain_safe(book, faces, lot, harms):
                rows = [target for _, target in plain_answers(book, lot, face)]
                ways.append(all((row, span + 1 if has_within(book, row) else 0) in left for row in rows))
            if not any(ways):
                gone.add((lot, span))
        if not gone:
            return ((book.first,), int(has_within(book, (book.first,)))) in left
        left -= gone

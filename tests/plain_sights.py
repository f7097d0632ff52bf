"""Part 9 of the document told again in the plainest way."""

from housewardens.onlookers import Onlooker
from tests.helpers import plain_ticks, plain_wheres, some_ascending
from tests.plain import do_ascend, plain_cut, plain_first_crowds, plain_goings, plain_runs_of, where_of

DEAF = Onlooker("", (0,))
EAR = Onlooker("x", (0,))


def some_onlooker(rng, faces):
    """An onlooker of so many faces."""
    letters = "".join(some_ascending(rng, list("abcx"), 3))
    return Onlooker(letters, tuple(rng.randint(0, faces) for _ in range(faces)))


def plain_classes(classes):
    """Classes numbered anew, in the order in which they first come."""
    found = []
    for number in classes:
        if number not in found:
            found.append(number)
    return tuple(found.index(number) for number in classes)


def plain_class(ward, onlooker, picture):
    return onlooker.classes[ward.device.shown[picture[1]]]


def plain_notes(ward, onlooker, run):
    """The notes of a run."""
    picture = (ward.book.first, 0)
    ticks = []
    for choice in run:
        ways = {other: (heard, further) for other, heard, further in plain_ticks(ward, picture)}
        heard, further = ways[choice]
        ticks.append((plain_class(ward, onlooker, picture), plain_cut(heard, onlooker.letters)))
        picture = further
    return tuple(ticks), plain_class(ward, onlooker, picture)


def plain_possible(ward, onlooker, run):
    """The pictures of all runs that look alike."""
    notes = plain_notes(ward, onlooker, run)
    rows = plain_runs_of(ward, len(run))
    return tuple(sorted({last for other, _, last in rows if plain_notes(ward, onlooker, other) == notes}))


def plain_possible_crowds(ward, onlooker, run, many):
    """The pairs of all goings of so many people that look alike."""
    notes = plain_notes(ward, onlooker, run)
    rows = {((), (crowd, 0)) for crowd in plain_first_crowds(ward, many)}
    for _ in run:
        rows = {
            (ahead + (choice,), further)
            for ahead, pair in rows
            for choice, further in plain_goings(ward, pair)
        }
    return tuple(sorted({pair for other, pair in rows if plain_notes(ward, onlooker, other) == notes}))


def plain_knows(ward, word, pictures):
    """Whether all of some pictures have nobody, or all somebody, in a room."""
    within = [any(ward.book.rooms[standing] >= 0 for standing in where) for where, _ in pictures]
    return not any(within) if word == "empty" else all(within)


def plain_lots_on(ward, onlooker, lot):
    """All lots of pictures that come behind one."""
    found = {}
    for picture in lot:
        for _, heard, further in plain_ticks(ward, picture):
            note = (plain_cut(heard, onlooker.letters), plain_class(ward, onlooker, further))
            found.setdefault(note, set()).add(further)
    return {tuple(sorted(row)) for row in found.values()}


def plain_lots_of_pictures(ward, onlooker, most=10**9):
    """All lots of pictures that come; None if these are more than most."""
    found, fresh = set(), {((ward.book.first, 0),)}
    while fresh:
        found |= fresh
        if len(found) > most:
            return None
        fresh = {further for lot in fresh for further in plain_lots_on(ward, onlooker, lot)} - found
    return tuple(sorted(found))


def is_plain_run(ward, thing):
    """Whether any value is a run."""
    if type(thing) is not tuple:
        return False
    picture = (ward.book.first, 0)
    for choice in thing:
        if type(choice) is not tuple or any(type(number) is not int for number in choice):
            return False
        ways = {other: further for other, _, further in plain_ticks(ward, picture)}
        if choice not in ways:
            return False
        picture = ways[choice]
    return True


def is_plain_picture(ward, thing):
    """Whether any value is a picture."""
    if type(thing) is not tuple or len(thing) != 2 or type(thing[0]) is not tuple or type(thing[1]) is not int:
        return False
    if any(type(part) is not int for part in thing[0]) or thing[0] not in plain_wheres(ward.book):
        return False
    return 0 <= thing[1] < len(ward.device.shown)


def is_plain_learned(ward, onlooker, word, thing):
    """Whether any value is a paper of [38]."""
    if type(thing) is not tuple or len(thing) != 2 or type(thing[0]) is not str or type(thing[1]) is not tuple:
        return False
    if thing[0] == "learns":
        if not is_plain_run(ward, thing[1]):
            return False
        lot = ((ward.book.first, 0),)
        picture = lot[0]
        for choice in thing[1]:
            ways = {other: (heard, further) for other, heard, further in plain_ticks(ward, picture)}
            heard, picture = ways[choice]
            note = (plain_cut(heard, onlooker.letters), plain_class(ward, onlooker, picture))
            lot = {
                further
                for some in lot
                for _, letters, further in plain_ticks(ward, some)
                if (plain_cut(letters, onlooker.letters), plain_class(ward, onlooker, further)) == note
            }
        return plain_knows(ward, word, lot)
    if thing[0] != "never":
        return False
    for lot in thing[1]:
        if type(lot) is not tuple or not lot or not all(is_plain_picture(ward, picture) for picture in lot):
            return False
        if not do_ascend(lot) or len({plain_class(ward, onlooker, picture) for picture in lot}) > 1:
            return False
    for lot in thing[1]:
        if plain_knows(ward, word, lot) or not plain_lots_on(ward, onlooker, lot) <= set(thing[1]):
            return False
    return do_ascend(thing[1]) and ((ward.book.first, 0),) in thing[1]


def where_of_pair(pair):
    return where_of(pair[0]), pair[1]

"""Examples, wild values, and the definitions of the document told again in the plainest way."""

import copy
import itertools
import random

from housewardens.books import Book
from housewardens.devices import Device
from housewardens.guests import Guest
from housewardens.onlookers import Onlooker
from housewardens.wards import Ward

HALL_MOVES = (
    (1, 0, "a", (0,), (1,), ()),
    (1, 1, "", (0, 1), (), ()),
    (1, 2, "", (0, 1), (), ()),
    (2, 1, "", (0, 1), (), ()),
)
HALL = Book((-1, 0, 1), HALL_MOVES, (1,))
FACES = ((False, False), (True, False))
PLAIN = Device((0, 1), ((0, "a", 1),), (0, 1))
WARD = Ward(HALL, FACES, PLAIN)

STREET = Book((0, -1), ((0, 0, "", (0,), (), ()), (0, 1, "x", (0,), (), ())), (0,))
ONE_FACE = ((False, False),)
STREET_WARD = Ward(STREET, ONE_FACE, Device((0,), (), (0,)))

HARMS = ("bell", "open", "shut")
ALL_HARMS = [harms for many in range(4) for harms in itertools.combinations(HARMS, many)]

HUGE = 10**39


def wild_values():
    """Values of all kinds, most of which are right nowhere."""
    return [
        None, True, False, 0, 1, 2, -1, -2, 9, 10, 99, 100, HUGE, -HUGE,
        "", "a", "z", "ab", "ba", "aa", "A", "0", "-", "kept", "harm", "shut", "open", "bell", "`", "{", " ", "\n",
        "a" * 4000, (), [], {}, (0,), [0], (1,), (True,), (False,), ("a",), (None,), (0, 1), (1, 0), (0, 0),
        [0, 1], {0: 1}, {"a": [()]}, (0, True), (-1,), (0, -1), ((),), ((0,),), (((0,), 0),), ([0], 0),
        (0, 1, 2), (0, 0, 0), (0, "", 0), (0, "a", 0), (0, 0, "", (), (), ()), (0, 0, "", [], (), ()),
        ((False, False),), [[False, False]], ("kept", ()), ("harm", (), "shut"), ("harm", (), "none"),
        ("people", (), ()), nested(12), [nested(11)], tuple(range(4999)), ("x" * 4000,),
        Book((0,), (), (0,)), Device((0,), (), (0,)), STREET_WARD, (STREET_WARD,), [WARD, {"b": HALL}],
        Guest((-1,), ()), Onlooker("", (0,)), (Onlooker("a", (0, 1)), Guest((-1, 0), ())),
    ]  # fmt: skip


def nested(deep):
    """A tuple so many deep."""
    thing = ()
    for _ in range(deep - 1):
        thing = (thing,)
    return thing


def exact(thing):
    """A text that tells apart values that are equal but of different kinds, as True and 1."""
    return repr(thing)


def is_among(thing, rights):
    """Whether a value is one of some tuples, kinds of parts included."""
    return exact(thing) in {exact(right) for right in rights}


PARTS = [None, True, False, 0, -1, 1, 7, 10, HUGE, "", "a", "0", "shut", (), [], {}, (0,), [0], (True,), HALL, nested(5)]


def variants(thing, parts=PARTS):
    """A value with one of its parts, at any depth, replaced, left out, doubled, exchanged or told as a list."""
    yield from parts
    if isinstance(thing, bool):
        yield int(thing)
    elif isinstance(thing, int):
        yield from (bool(thing), str(thing), thing + 1, thing - 1, -thing, [thing], (thing,))
    elif isinstance(thing, str):
        yield from (thing + "z", thing + "a", "a" + thing, thing.upper(), [thing], (thing,), tuple(thing))
    elif isinstance(thing, tuple):
        yield list(thing)
        yield {number: part for number, part in enumerate(thing)}
        yield thing + (0,)
        yield thing[::-1]
        for at, part in enumerate(thing):
            yield thing[:at] + thing[at + 1 :]
            yield thing[: at + 1] + thing[at:]
            for further in range(at + 1, len(thing)):
                yield thing[:at] + (thing[further],) + thing[at + 1 : further] + (part,) + thing[further + 1 :]
            for variant in variants(part, parts):
                yield thing[:at] + (variant,) + thing[at + 1 :]


def subsets(things):
    """All ascending tuples of some things, the empty one too."""
    return [row for many in range(len(things) + 1) for row in itertools.combinations(sorted(things), many)]


def plain_wheres(book):
    """All wheres of a book."""
    return [where for where in subsets(range(len(book.rooms))) if where]


def plain_open(book, where, face):
    """The open moves, by the words of the document."""
    rooms = {book.rooms[standing] for standing in where}
    found = []
    for number, (origin, _, _, faces, empty, there) in enumerate(book.moves):
        if origin in where and face in faces and not rooms & set(empty) and set(there) <= rooms:
            found.append(number)
    return tuple(found)


def plain_choices(book, where, face):
    """All choices: sets of open moves that have one from each standing from which any is open."""
    numbers = plain_open(book, where, face)
    origins = {book.moves[number][0] for number in numbers}
    rows = subsets(numbers)
    return tuple(sorted(row for row in rows if {book.moves[number][0] for number in row} == origins))


def plain_tick(book, where, face, choice):
    """What is heard of a choice, and the where behind it."""
    origins = {book.moves[number][0] for number in plain_open(book, where, face)}
    heard = {letter for number in choice for letter in book.moves[number][2]}
    targets = {book.moves[number][1] for number in choice} | {place for place in where if place not in origins}
    return "".join(sorted(heard)), tuple(sorted(targets))


def plain_led(device, state, heard):
    """The next state of a device."""
    for origin, letters, target in device.steps:
        if (origin, letters) == (state, heard):
            return target
    return device.others[state]


def plain_ticks(ward, picture):
    """All ticks in a picture: choice, what is heard, next picture."""
    where, state = picture
    face = ward.device.shown[state]
    for choice in plain_choices(ward.book, where, face):
        heard, target = plain_tick(ward.book, where, face, choice)
        yield choice, heard, (target, plain_led(ward.device, state, heard))


def plain_runs(ward, longest):
    """All runs of at most so many ticks, shorter ones ahead, then as tuples, each with its last picture."""
    rows = [((), (ward.book.first, 0))]
    for _ in range(longest + 1):
        yield from rows
        rows = [
            (run + (choice,), further)
            for run, picture in rows
            for choice, _, further in plain_ticks(ward, picture)
        ]


def plain_pictures(ward):
    """All pictures to which runs lead."""
    found, fresh = set(), {(ward.book.first, 0)}
    while fresh:
        found |= fresh
        fresh = {further for picture in fresh for _, _, further in plain_ticks(ward, picture)} - found
    return tuple(sorted(found))


def plain_harm(ward, picture, harm):
    """Whether a picture has a harm."""
    where, state = picture
    within = any(ward.book.rooms[standing] >= 0 for standing in where)
    armed, rings = ward.faces[ward.device.shown[state]]
    if harm == "shut":
        return armed and within
    if harm == "bell":
        return rings
    states = [state]
    for _ in range(50):
        states.append(plain_led(ward.device, states[-1], ""))
    return not within and not any(ward.faces[ward.device.shown[state]][0] for state in states)


def some_ascending(rng, things, many):
    """An ascending tuple of at most so many of some things."""
    return tuple(sorted(rng.sample(things, min(len(things), rng.randint(0, many)))))


def some_book(rng, standings=3, moves=5, letters="abc"):
    """A book with at most so many standings and moves."""
    rooms = tuple(rng.choice((-1, 0, 0, 1, 2)) for _ in range(rng.randint(1, standings)))
    rows = []
    for _ in range(rng.randint(0, moves)):
        origin = rng.randrange(len(rooms))
        others = [room for room in (0, 1, 2, 5) if room != rooms[origin]]
        heard = "".join(some_ascending(rng, list(letters), 2))
        looks = [some_ascending(rng, others, 1) if rng.random() < 0.4 else () for _ in range(2)]
        rows.append((origin, rng.randrange(len(rooms)), heard, some_ascending(rng, [0, 1, 2], 3), *looks))
    first = ()
    while not first:
        first = some_ascending(rng, list(range(len(rooms))), len(rooms))
    return Book(rooms, tuple(rows), first)


def some_device(rng, faces, states=3):
    """A device with at most so many states that shows some of these faces."""
    many = rng.randint(1, states)
    keys = [(state, heard) for state in range(many) for heard in ("", "a", "ab", "b", "bc", "c", "abc")]
    steps = tuple((*key, rng.randrange(many)) for key in some_ascending(rng, keys, 8))
    shown = tuple(rng.randrange(len(faces)) for _ in range(many))
    return Device(shown, steps, tuple(rng.randrange(many) for _ in range(many)))


def some_ward(rng):
    """A small ward."""
    faces = tuple((rng.random() < 0.3, rng.random() < 0.2) for _ in range(rng.randint(1, 3)))
    return Ward(some_book(rng), faces, some_device(rng, faces))


def some_wards(many, seed=1):
    """So many small wards, the same ones for the same seed."""
    rng = random.Random(seed)
    return [some_ward(rng) for _ in range(many)]


def some_run(rng, ward, length):
    """A run of so many ticks."""
    run, picture = (), (ward.book.first, 0)
    for _ in range(length):
        choice, _, picture = rng.choice(list(plain_ticks(ward, picture)))
        run += (choice,)
    return run


def calls_leave_alone(test, function, thing):
    """Calls a function twice with a value: both results are equal, and the value stays as it was."""
    kept = copy.deepcopy(thing)
    first = function(thing)
    test.assertEqual(exact(first), exact(function(thing)))
    test.assertEqual(kept, thing)
    return first


def error_of(function, *told, **more):
    """The error that a call raises, or None."""
    try:
        function(*told, **more)
    except Exception as error:  # any: the tests ask of which class it is
        return error
    return None

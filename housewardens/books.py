"""Books of habits: who can go where, and what is heard of it."""

from housewardens.errors import BadBook, BadText
from housewardens.kinds import (
    AWAY,
    GREATEST_FACE,
    GREATEST_ROOM,
    are_ascending,
    are_between,
    are_letters,
    is_between,
    is_tuple_of,
)
from housewardens.texts import (
    check_end,
    end_of_kind,
    heard_told,
    lines_of,
    number_told,
    numbers_told,
    parts_at,
    parts_of_many,
    row_told,
    word_of_heard,
    word_of_numbers,
)


def is_heard(thing):
    """Whether any value is a heard string."""
    return are_letters(thing)


def are_rooms(thing):
    """Whether any value tells the rooms of one or more standings."""
    return are_between(thing, AWAY, GREATEST_ROOM) and len(thing) > 0


def are_standings(rooms, thing):
    """Whether any value is an ascending tuple of one or more of the standings that have these rooms."""
    return are_ascending(thing, 0, len(rooms) - 1) and len(thing) > 0


def can_look_into(thing, room):
    """Whether any value is an ascending tuple of rooms for a move whose origin is in a room."""
    return are_ascending(thing, 0, GREATEST_ROOM) and room not in thing


def is_move(rooms, thing):
    """Whether any value is a move between standings that have these rooms."""
    if not is_tuple_of(thing, 6):
        return False
    origin, target, heard, faces, empty, there = thing
    last = len(rooms) - 1
    if not (is_between(origin, 0, last) and is_between(target, 0, last) and is_heard(heard)):
        return False
    if not are_ascending(faces, 0, GREATEST_FACE):
        return False
    return can_look_into(empty, rooms[origin]) and can_look_into(there, rooms[origin])


class Book:
    """The habits by which anybody goes about: standings in rooms, moves, and the first standings."""

    def __init__(self, rooms, moves, first):
        if not are_rooms(rooms):
            raise BadBook("rooms")
        if not isinstance(moves, tuple):
            raise BadBook("moves")
        for number, move in enumerate(moves):
            if not is_move(rooms, move):
                raise BadBook(number)
        if not are_standings(rooms, first):
            raise BadBook("first")
        self.rooms = rooms
        self.moves = moves
        self.first = first

    def __len__(self):
        return len(self.rooms)

    def __eq__(self, other):
        return (
            isinstance(other, Book)
            and self.rooms == other.rooms
            and self.moves == other.moves
            and self.first == other.first
        )

    def __str__(self):
        return "\n".join(book_lines(self))

    @classmethod
    def read(cls, text):
        """The book that a text tells; raises BadText(line) for any value that is no text of a book."""
        lines = lines_of(text)
        rooms, moves, first, end = book_told(lines, 0)
        check_end(lines, end)
        return cls(rooms, moves, first)

    def without_moves(self, numbers):
        """The book without the moves that have these numbers."""
        moves = [move for number, move in enumerate(self.moves) if number not in numbers]
        return Book(self.rooms, tuple(moves), self.first)


def book_lines(book):
    """The lines of the text of a book."""
    rooms = " ".join([str(room) for room in book.rooms])
    first = " ".join([str(standing) for standing in book.first])
    return [f"rooms {rooms}", f"first {first}"] + [move_line(move) for move in book.moves]


def move_line(move):
    """The line that tells a move."""
    origin, target, heard, faces, empty, there = move
    looks = f"{word_of_numbers(empty)} {word_of_numbers(there)}"
    return f"move {origin} {target} {word_of_heard(heard)} {word_of_numbers(faces)} {looks}"


def book_told(lines, at):
    """What lines tell from an index on: rooms, moves, first standings, and the index behind them."""
    rooms = numbers_told(parts_at(lines, at, "rooms"))
    if not are_rooms(rooms):
        raise BadText(at + 1)
    first = numbers_told(parts_at(lines, at + 1, "first"))
    if not are_standings(rooms, first):
        raise BadText(at + 2)
    end = end_of_kind(lines, at + 2, "move")
    moves = [move_told(rooms, lines, place) for place in range(at + 2, end)]
    return rooms, tuple(moves), first, end


def move_told(rooms, lines, at):
    """The move that a line tells."""
    origin, target, heard, faces, empty, there = parts_of_many(lines, at, "move", 6)
    ends = (number_told(origin), number_told(target))
    move = (*ends, heard_told(heard), row_told(faces), row_told(empty), row_told(there))
    if not is_move(rooms, move):
        raise BadText(at + 1)
    return move


def is_where(book, thing):
    """Whether any value is a where of the book."""
    return are_standings(book.rooms, thing)


def is_open(move, where, face, occupied):
    """Whether a move is open at a face, somebody being in all standings of a where, in the occupied rooms."""
    origin, target, heard, faces, empty, there = move
    return (
        origin in where
        and face in faces
        and not any([room in occupied for room in empty])
        and all([room in occupied for room in there])
    )


def open_moves(book, where, face):
    """The numbers of the moves that are open in a where at a face."""
    occupied = [book.rooms[standing] for standing in where]
    return tuple([number for number, move in enumerate(book.moves) if is_open(move, where, face, occupied)])


def open_by_standing(book, where, face):
    """For each standing of a where the pair of it and of the numbers of its open moves."""
    numbers = open_moves(book, where, face)
    return [(standing, [number for number in numbers if book.moves[number][0] == standing]) for standing in where]


def staying(book, where, face):
    """The standings of a where in which people stay put."""
    return [standing for standing, numbers in open_by_standing(book, where, face) if not numbers]


def parts_of(numbers):
    """All ways to take one or more of some numbers."""
    parts = [()]
    for number in numbers:
        parts = parts + [(*part, number) for part in parts]
    return parts[1:]


def choices(book, where, face):
    """All choices in a where at a face, ascending."""
    found = [()]
    for _, numbers in open_by_standing(book, where, face):
        if numbers:
            found = [(*choice, *part) for choice in found for part in parts_of(numbers)]
    return tuple(sorted([tuple(sorted(choice)) for choice in found]))


def is_choice(book, where, face, thing):
    """Whether any value is a choice in a where at a face."""
    if not are_ascending(thing, 0, len(book.moves) - 1):
        return False
    numbers = open_moves(book, where, face)
    if not all([number in numbers for number in thing]):
        return False
    made = [book.moves[number][0] for number in thing]
    return all([book.moves[number][0] in made for number in numbers])


def letters_once(text):
    """The letters of a text, each once, ascending."""
    return "".join(sorted(set(text)))


def standings_once(standings):
    """Standings, each once, ascending."""
    return tuple(sorted(set(standings)))


def heard_of(book, choice):
    """What is heard of a choice."""
    return letters_once("".join([book.moves[number][2] for number in choice]))


def where_behind(book, where, face, choice):
    """The where to which a choice leads."""
    return where_led_to(book, staying(book, where, face), choice)


def where_led_to(book, still, choice):
    """The where to which a choice leads while people stay put in some standings."""
    return standings_once(still + [book.moves[number][1] for number in choice])


def ways_on(book, where, face):
    """All choices, ascending, each with what is heard of it and the where behind it."""
    still = staying(book, where, face)
    return [
        (choice, heard_of(book, choice), where_led_to(book, still, choice)) for choice in choices(book, where, face)
    ]


def joined(some, more):
    """All pairs of what is heard and of standings that come of one pair of some and one of more, together."""
    return sorted(
        {
            (letters_once(heard + further), standings_once(standings + targets))
            for heard, standings in some
            for further, targets in more
        }
    )


def outcomes_from(book, standing, numbers):
    """What can be heard of those in one standing, and where they can be then, as pairs."""
    if not numbers:
        return [("", (standing,))]
    found = [("", ())]
    for number in numbers:
        target, heard = book.moves[number][1:3]
        found = sorted(set(found + joined(found, [(heard, (target,))])))
    # Whoever makes any move is somewhere: the pair without a standing is that of no move at all.
    return [pair for pair in found if pair[1]]


def outcomes(book, where, face):
    """The pairs of what is heard and of the where behind it, of all choices, ascending."""
    # Joined standing by standing, as choices are many where outcomes are few.
    found = [("", ())]
    for standing, numbers in open_by_standing(book, where, face):
        found = joined(found, outcomes_from(book, standing, numbers))
    return tuple(found)


def has_somebody(book, where):
    """Whether an occupied standing is in a room."""
    return any([book.rooms[standing] != AWAY for standing in where])

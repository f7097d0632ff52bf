"""Guests who are not expected, and their habits."""

from housewardens.books import are_rooms, is_heard
from housewardens.errors import BadGuest, BadText
from housewardens.kinds import AWAY, GREATEST_FACE, STAYS, are_ascending, is_between, is_tuple_of
from housewardens.texts import (
    check_end,
    end_of_kind,
    heard_told,
    lines_of,
    number_told,
    numbers_told,
    parts_at,
    parts_of_many,
    row_told,
    word_of_heard,
    word_of_numbers,
)


def are_guest_rooms(thing):
    """Whether any value tells the rooms of one or more standings, the first one away."""
    return are_rooms(thing) and thing[0] == AWAY


def is_guest_move(rooms, thing):
    """Whether any value is a move of a guest between standings that have these rooms."""
    if not is_tuple_of(thing, 4):
        return False
    origin, target, heard, faces = thing
    last = len(rooms) - 1
    if not (is_between(origin, 0, last) and is_between(target, 0, last) and is_heard(heard)):
        return False
    return are_ascending(faces, 0, GREATEST_FACE)


class Guest:
    """Somebody who is not expected: standings in rooms, the first one away, and moves."""

    def __init__(self, rooms, moves):
        if not are_guest_rooms(rooms):
            raise BadGuest("rooms")
        if not isinstance(moves, tuple):
            raise BadGuest("moves")
        for number, move in enumerate(moves):
            if not is_guest_move(rooms, move):
                raise BadGuest(number)
        self.rooms = rooms
        self.moves = moves

    def __len__(self):
        return len(self.rooms)

    def __eq__(self, other):
        return isinstance(other, Guest) and self.rooms == other.rooms and self.moves == other.moves

    def __str__(self):
        return "\n".join(guest_lines(self))

    @classmethod
    def read(cls, text):
        """The guest that a text tells; raises BadText(line) for any value that is no text of a guest."""
        lines = lines_of(text)
        rooms = numbers_told(parts_at(lines, 0, "guest"))
        if not are_guest_rooms(rooms):
            raise BadText(1)
        end = end_of_kind(lines, 1, "move")
        moves = [guest_move_told(rooms, lines, at) for at in range(1, end)]
        check_end(lines, end)
        return cls(rooms, tuple(moves))


def guest_lines(guest):
    """The lines of the text of a guest."""
    rooms = " ".join([str(room) for room in guest.rooms])
    return [f"guest {rooms}"] + [guest_move_line(move) for move in guest.moves]


def guest_move_line(move):
    """The line that tells a move of a guest."""
    origin, target, heard, faces = move
    return f"move {origin} {target} {word_of_heard(heard)} {word_of_numbers(faces)}"


def guest_move_told(rooms, lines, at):
    """The move of a guest that a line tells."""
    origin, target, heard, faces = parts_of_many(lines, at, "move", 4)
    move = (number_told(origin), number_told(target), heard_told(heard), row_told(faces))
    if not is_guest_move(rooms, move):
        raise BadText(at + 1)
    return move


def guest_moves(guest, standing, face):
    """The numbers of the moves that a guest can make from a standing at a face, with -1 if it can stay put."""
    found = [number for number, move in enumerate(guest.moves) if move[0] == standing and face in move[3]]
    return tuple(found) if found and standing > 0 else (STAYS, *found)


def guest_goes(guest, standing, move):
    """What is heard of a move of a guest, or of its staying put, and the next standing."""
    if move == STAYS:
        return "", standing
    target, heard = guest.moves[move][1:3]
    return heard, target

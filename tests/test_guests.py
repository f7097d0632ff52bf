"""Point [30], [8] for guests, and guests.py."""

import itertools
import random
import unittest

from housewardens.books import Book
from housewardens.errors import BadGuest, BadText
from housewardens.guests import Guest, guest_goes, guest_moves
from tests.helpers import HALL, HUGE, PLAIN, WARD, error_of, some_ascending, variants, wild_values
from tests.plain import THIEF, told

TEXT = "guest -1 3\nmove 0 1 a 0,1,2\nmove 1 1 c 2"
MOVES = ((0, 1, "ab", (0, 1)), (0, 0, "", ()), (2, 0, "z", (0, 99)), (1, 2, "", (1,)), (1, 1, "c", (0, 1)))
LONG = Guest((-1, 0, -1), MOVES)


def some_guest(rng):
    rooms = (-1, *[rng.choice((-1, 0, 1, 9)) for _ in range(rng.randint(0, 2))])
    moves = []
    for _ in range(rng.randint(0, 5)):
        heard = "".join(some_ascending(rng, list("abz"), 2))
        moves.append((rng.randrange(len(rooms)), rng.randrange(len(rooms)), heard, some_ascending(rng, [0, 1, 99], 3)))
    return Guest(rooms, tuple(moves))


def is_number(thing, low, high):
    return type(thing) is int and low <= thing <= high


def are_numbers(thing, low, high):
    return type(thing) is tuple and all(is_number(part, low, high) for part in thing)


def is_plain_move(rooms, thing):
    if type(thing) is not tuple or len(thing) != 4 or type(thing[2]) is not str:
        return False
    if not all(is_number(place, 0, len(rooms) - 1) for place in thing[:2]):
        return False
    if not set(thing[2]) <= set("abcdefghijklmnopqrstuvwxyz") or sorted(set(thing[2])) != list(thing[2]):
        return False
    return are_numbers(thing[3], 0, 99) and list(thing[3]) == sorted(set(thing[3]))


def plain_fault(rooms, moves):
    """The part of the error that Guest has to raise, or None."""
    if not are_numbers(rooms, -1, 9) or rooms[:1] != (-1,):
        return "rooms"
    if type(moves) is not tuple:
        return "moves"
    return next((number for number, move in enumerate(moves) if not is_plain_move(rooms, move)), None)


class Making(unittest.TestCase):
    def check(self, rooms, moves):
        fault = plain_fault(rooms, moves)
        for error in (error_of(Guest, rooms, moves), error_of(Guest, moves=moves, rooms=rooms)):
            if fault is None:
                self.assertIsNone(error)
            else:
                self.assertIs(type(error), BadGuest, (rooms, moves))
                self.assertEqual(told(error.part), told(fault), (rooms, moves))

    def test_attributes(self):
        self.assertEqual(THIEF.rooms, (-1, 3))
        self.assertEqual(THIEF.moves, ((0, 1, "a", (0, 1, 2)), (1, 1, "c", (2,))))
        self.assertEqual(len(THIEF), 2)
        self.assertEqual(len(Guest((-1,), ())), 1)

    def test_any_value(self):
        for thing in [*wild_values(), *variants((-1, 3, 9))]:
            self.check(thing, ())
            self.check(thing, MOVES)
        for thing in [*wild_values(), *variants(MOVES)]:
            self.check((-1, 0, -1), thing)
            self.check((0,), thing)

    def test_the_order_of_errors(self):
        self.check((0,), None)
        self.check((-1,), None)
        self.check((-1, 0), (MOVES[0], (0, 2, "", ()), None))
        self.check((-1, 0), (MOVES[0], (0, 0, "ba", ()), (0, 2, "", ())))
        self.check((-1, 10), MOVES)
        self.check((-1, 9), ((0, 1, "", (100,)),))
        self.check((-1,), ((0, 0, "", (0, 0)),))
        self.check((-1,), ((0, 0, "", (), ()),))
        self.check((-1,), ((True, 0, "", ()),))
        self.check((), ())
        self.check((HUGE,), ())

    def test_equal(self):
        self.assertEqual(THIEF, Guest((-1, 3), THIEF.moves))
        self.assertNotEqual(THIEF, Guest((-1, 4), THIEF.moves))
        self.assertNotEqual(THIEF, Guest((-1, 3), THIEF.moves[:1]))
        for thing in [*wild_values(), HALL, PLAIN, WARD, Book((-1, 3), (), (0,)), str(THIEF)]:
            self.assertIs(THIEF == thing, False)
            self.assertIs(THIEF != thing, True)


class Texts(unittest.TestCase):
    def wrong(self, text, line):
        for error in (error_of(Guest.read, text), error_of(Guest.read, text=text)):
            self.assertIs(type(error), BadText, text)
            self.assertIs(type(error.line), int)
            self.assertEqual(error.line, line, text)

    def test_writing_and_reading(self):
        self.assertEqual(str(THIEF), TEXT)
        self.assertEqual(Guest.read(TEXT), THIEF)
        self.assertEqual(str(Guest((-1,), ())), "guest -1")
        text = "guest -1 0 -1\nmove 0 1 ab 0,1\nmove 0 0 - -\nmove 2 0 z 0,99\nmove 1 2 - 1\nmove 1 1 c 0,1"
        self.assertEqual(str(LONG), text)
        self.assertEqual(Guest.read(text=text), LONG)
        rng = random.Random(191)
        for _ in range(80):
            guest = some_guest(rng)
            self.assertEqual(Guest.read(str(guest)), guest)
            self.assertEqual(str(Guest.read(str(guest))), str(guest))

    def test_no_string(self):
        for thing in [*wild_values(), THIEF, [TEXT], (TEXT,), b"guest -1"]:
            self.wrong(thing, 1 if isinstance(thing, str) else 0)

    def test_signs_at_the_ends_of_lines(self):
        for text in (TEXT, str(LONG)):
            lines = text.split("\n")
            for at, line in enumerate(lines):
                last = line.split(" ")[-1]
                for wrong in (line + " ", " " + line, line.replace(" ", "  ", 1), line + " -", line + "-", line + " x",
                              line.upper(), line.split(" ")[0], line.replace(" ", "\t", 1),
                              line[: -len(last)] + " " + last, "", "first 0", line + ","):  # fmt: skip
                    self.wrong("\n".join([*lines[:at], wrong, *lines[at + 1 :]]), at + 1)
            self.wrong(text + "\n", len(lines) + 1)
            self.wrong("\n" + text, 1)

    def test_lines(self):
        self.wrong("", 1)
        self.wrong("guest", 1)
        self.wrong("move 0 0 - 0", 1)
        self.wrong("guest -1\nguest -1", 2)
        self.wrong("guest -1\nmove 0 0 - 0\nguest -1", 3)
        self.wrong("guest -1\nmove 0 0 - 0\n\nmove 0 0 - 0", 3)
        self.wrong("rooms -1\nfirst 0", 1)
        self.wrong("guest -1\nmove 0 0 - 0 - -", 2)
        self.wrong(str(HALL), 1)
        self.wrong("guest -1\nmove 0 1 - 0\nmove", 2)
        self.wrong("guest 0\nmove 0 1 - 0\nmove", 1)
        self.assertEqual(len(Guest.read("guest -1\nmove 0 0 - 0\nmove 0 0 - 0").moves), 2)

    def test_what_a_line_tells_is_none(self):
        for rooms in ("0", "-1 10", "-1 -2", "3 -1", "-", "-1,0", "--1", "-1 x", "-01", "1", "-1 " + "9" * 5000):
            self.wrong(f"guest {rooms}\nmove", 1)
        for move in ("2 0 - 0", "-1 0 - 0", "0 2 - 0", "0 0 ba 0", "0 0 aa 0", "0 0 A 0", "0 0 - 100", "0 0 - 1,0",
                     "0 0 - 0,0", "0 0 - -1", "0 0 0 0", "0 0 - a", "0 0 - 0,,1", "0 0 - ,", "0 0  0", "- 0 - 0",
                     "0 0 -", "0 0 - 00", "0 0 - +1"):  # fmt: skip
            self.wrong(f"guest -1 0\nmove 0 1 a 0\nmove {move}\nmove", 3)


class Moves(unittest.TestCase):
    def test_examples(self):
        self.assertEqual(guest_moves(THIEF, 0, 2), (-1, 0))
        self.assertEqual(guest_moves(THIEF, 1, 2), (1,))
        self.assertEqual(guest_moves(face=0, standing=1, guest=THIEF), (-1,))

    def test_goes(self):
        self.assertEqual(guest_goes(THIEF, 0, 0), ("a", 1))
        self.assertEqual(guest_goes(THIEF, 1, 1), ("c", 1))
        self.assertEqual(guest_goes(move=-1, standing=1, guest=THIEF), ("", 1))
        self.assertEqual(guest_goes(THIEF, 0, -1), ("", 0))

    def test_the_standing_alone(self):
        alone = Guest((-1,), ((0, 0, "a", (1,)),))
        self.assertEqual(guest_moves(alone, 0, 0), (-1,))
        self.assertEqual(guest_moves(alone, 0, 1), (-1, 0))
        self.assertEqual(guest_moves(Guest((-1,), ()), 0, 5), (-1,))
        self.assertEqual(guest_moves(Guest((-1, -1), ((1, 0, "", (7, 99)),)), 1, 99), (0,))

    def test_by_the_words(self):
        rng = random.Random(192)
        for _ in range(60):
            guest = some_guest(rng)
            for standing, face in itertools.product(range(len(guest)), (0, 1, 2, 99)):
                rows = [at for at, move in enumerate(guest.moves) if move[0] == standing and face in move[3]]
                if standing == 0 or not rows:
                    rows = [-1, *rows]
                self.assertEqual(guest_moves(guest, standing, face), tuple(rows))
                for move in rows:
                    right = ("", standing) if move == -1 else (guest.moves[move][2], guest.moves[move][1])
                    self.assertEqual(guest_goes(guest, standing, move), right)


if __name__ == "__main__":
    unittest.main()

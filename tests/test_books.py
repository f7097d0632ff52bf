"""Point [4], the moves of [6], and books.py."""

import random
import re
import unittest

from housewardens.books import (
    Book,
    choices,
    has_somebody,
    heard_of,
    is_heard,
    is_where,
    open_moves,
    outcomes,
    where_behind,
)
from housewardens.devices import Device
from housewardens.errors import BadBook
from tests.helpers import (
    FACES,
    HALL,
    HALL_MOVES,
    HUGE,
    PLAIN,
    STREET,
    WARD,
    calls_leave_alone,
    error_of,
    exact,
    is_among,
    plain_choices,
    plain_open,
    plain_tick,
    plain_wheres,
    some_book,
    variants,
    wild_values,
)


def is_plainly_heard(thing):
    return isinstance(thing, str) and bool(re.fullmatch("[a-z]*", thing)) and "".join(sorted(set(thing))) == thing


def plain_number(thing, low, high):
    return type(thing) is int and low <= thing <= high


def plain_numbers(thing, low, high):
    return type(thing) is tuple and all(plain_number(part, low, high) for part in thing)


def plain_ascending(thing, low, high):
    return plain_numbers(thing, low, high) and list(thing) == sorted(set(thing))


def is_plain_move(rooms, thing):
    last = len(rooms) - 1
    return (
        type(thing) is tuple
        and len(thing) == 6
        and plain_number(thing[0], 0, last)
        and plain_number(thing[1], 0, last)
        and is_plainly_heard(thing[2])
        and plain_ascending(thing[3], 0, 99)
        and all(plain_ascending(row, 0, 9) and rooms[thing[0]] not in row for row in thing[4:])
    )


def plain_fault(rooms, moves, first):
    """The part of the first error that Book has to raise, or None."""
    if not plain_numbers(rooms, -1, 9) or not rooms:
        return "rooms"
    if type(moves) is not tuple:
        return "moves"
    for number, move in enumerate(moves):
        if not is_plain_move(rooms, move):
            return number
    if not plain_ascending(first, 0, len(rooms) - 1) or not first:
        return "first"
    return None


class Heard(unittest.TestCase):
    def test_heard_strings(self):
        for thing in ("", "a", "z", "az", "abc", "abcdefghijklmnopqrstuvwxyz"):
            self.assertIs(is_heard(thing), True, thing)

    def test_no_heard_strings(self):
        for thing in ("ba", "aa", "A", "aB", "`", "{", "a b", " ", "a\n", "-", "1", "\u00e4", "a\u0300", "aab", "abb"):
            self.assertIs(is_heard(thing), False, thing)

    def test_any_value(self):
        for thing in [*wild_values(), ("a",), ["a"], ("a", "b"), {"a": "b"}, b"a"]:
            self.assertIs(calls_leave_alone(self, is_heard, thing), is_plainly_heard(thing))
        self.assertIs(is_heard(thing="ab"), True)


class Making(unittest.TestCase):
    def check(self, rooms, moves, first):
        fault = plain_fault(rooms, moves, first)
        error = error_of(Book, rooms, moves, first)
        by_name = error_of(Book, first=first, rooms=rooms, moves=moves)
        if fault is None:
            self.assertIsNone(error)
            self.assertIsNone(by_name)
            return
        for raised in (error, by_name):
            self.assertIs(type(raised), BadBook, (rooms, moves, first))
            self.assertEqual(exact(raised.part), exact(fault), (rooms, moves, first))

    def test_attributes(self):
        book = Book(first=(1,), moves=HALL_MOVES, rooms=(-1, 0, 1))
        self.assertEqual((book.rooms, book.moves, book.first), ((-1, 0, 1), HALL_MOVES, (1,)))
        self.assertEqual(book, HALL)

    def test_least_book(self):
        for room in range(-1, 10):
            book = Book((room,), (), (0,))
            self.assertEqual((book.rooms, book.moves, book.first), ((room,), (), (0,)))

    def test_any_rooms(self):
        for rooms in [*wild_values(), *variants((-1, 0, 9)), (10,), (-2,), (0, 10), (True,), ["0"], (0.0,)]:
            self.check(rooms, (), (0,))
            self.check(rooms, HALL_MOVES, (1,))

    def test_any_moves(self):
        for moves in [*wild_values(), *variants(HALL_MOVES[:2]), list(HALL_MOVES)]:
            self.check((-1, 0, 1), moves, (1,))

    def test_any_first(self):
        for first in [*wild_values(), *variants((0, 2)), (3,), (0, 1, 2), (2, 1), (1, 1), [1]]:
            self.check((-1, 0, 1), HALL_MOVES, first)

    def test_bounds_of_a_move(self):
        right = (1, 2, "ac", (0, 99), (1, 9), (2,))
        self.assertIsNone(error_of(Book, (-1, 0, 1), (right,), (0,)))
        parts = {
            0: (-1, 3, True, "1", None, HUGE),
            1: (-1, 3, False, (0,), HUGE),
            2: ("ca", "aa", "A", None, 0, ("a",), ["a"], "a-"),
            3: ((100,), (-1,), (1, 0), (0, 0), [0], 0, (True,), ("0",), None, "0", (0, HUGE)),
            4: ((0,), (10,), (-1,), (2, 1), (1, 1), [1], (True,), None, 1, "", (1, 0)),
            5: ((0,), (10,), (-1,), (2, 1), (1, 1), [1], (True,), None, 1, "", (0, 1)),
        }
        for at, wrongs in parts.items():
            for wrong in wrongs:
                move = right[:at] + (wrong,) + right[at + 1 :]
                error = error_of(Book, (-1, 0, 1), (right, right, move, move), (7,))
                self.assertIs(type(error), BadBook, move)
                self.assertEqual(error.part, 2, move)

    def test_moves_from_away_can_look_into_each_room(self):
        move = (0, 0, "", (), tuple(range(10)), tuple(range(10)))
        self.assertIsNone(error_of(Book, (-1,), (move,), (0,)))

    def test_each_move_with_a_part_more_or_less_is_wrong(self):
        for move in (HALL_MOVES[0][:5], HALL_MOVES[0] + ((),), (), list(HALL_MOVES[0])):
            self.assertEqual(error_of(Book, (-1, 0, 1), (move,), (1,)).part, 0)

    def test_the_error_listed_first_is_raised(self):
        self.assertEqual(error_of(Book, (), None, ()).part, "rooms")
        self.assertEqual(error_of(Book, (0,), None, ()).part, "moves")
        self.assertEqual(error_of(Book, (0,), ((), None), ()).part, 0)
        self.assertEqual(error_of(Book, (0,), ((0, 0, "", (), (), ()), None), ()).part, 1)
        self.assertEqual(error_of(Book, (0,), ((0, 0, "", (), (), ()),), ()).part, "first")

    def test_some_books(self):
        rng = random.Random(3)
        for _ in range(6):
            book = some_book(rng, moves=2)
            for rooms in variants(book.rooms, [0, True, "a", ()]):
                self.check(rooms, book.moves, book.first)
            for moves in variants(book.moves, [0, True, "a", ()]):
                self.check(book.rooms, moves, book.first)


class Comparing(unittest.TestCase):
    def test_length(self):
        self.assertEqual(len(HALL), 3)
        self.assertEqual(len(STREET), 2)

    def test_equal(self):
        self.assertTrue(HALL == Book((-1, 0, 1), HALL_MOVES, (1,)))
        self.assertFalse(HALL != Book((-1, 0, 1), HALL_MOVES, (1,)))

    def test_unlike_in_each_attribute(self):
        for other in (
            Book((-1, 0, 2), HALL_MOVES, (1,)),
            Book((-1, 0, 1), HALL_MOVES[:3], (1,)),
            Book((-1, 0, 1), HALL_MOVES[::-1], (1,)),
            Book((-1, 0, 1), HALL_MOVES, (0, 1)),
        ):
            self.assertFalse(HALL == other)
            self.assertTrue(HALL != other)

    def test_no_other_value_is_equal(self):
        parts = (HALL.rooms, HALL.moves, HALL.first)
        for other in [*wild_values(), parts, list(parts), str(HALL), (HALL,), PLAIN, WARD]:
            self.assertIs(HALL == other, False)
            self.assertIs(other == HALL, False)
            self.assertIs(HALL != other, True)

    def test_without_moves(self):
        self.assertEqual(HALL.without_moves(()), HALL)
        self.assertEqual(HALL.without_moves((0, 2)), Book((-1, 0, 1), (HALL_MOVES[1], HALL_MOVES[3]), (1,)))
        self.assertEqual(HALL.without_moves(numbers=(0, 1, 2, 3)), Book((-1, 0, 1), (), (1,)))
        self.assertEqual(HALL.moves, HALL_MOVES)


class Wheres(unittest.TestCase):
    def test_all_wheres(self):
        for where in plain_wheres(HALL):
            self.assertIs(is_where(HALL, where), True)
        self.assertIs(is_where(book=HALL, thing=(0, 2)), True)

    def test_any_value(self):
        rights = plain_wheres(HALL)
        for thing in [*wild_values(), *variants((0, 1, 2)), *variants((1,)), (3,), (0, 3), (2, 1), (1, 1), [0]]:
            right = is_among(thing, rights)
            self.assertIs(calls_leave_alone(self, lambda told: is_where(HALL, told), thing), right, thing)

    def test_somebody(self):
        self.assertIs(has_somebody(HALL, (0,)), False)
        self.assertIs(has_somebody(HALL, (0, 1)), True)
        self.assertIs(has_somebody(HALL, (2,)), True)
        self.assertIs(has_somebody(book=Book((-1, -1), (), (0,)), where=(0, 1)), False)


class Ticks(unittest.TestCase):
    def test_examples(self):
        self.assertEqual(open_moves(HALL, (1,), 0), (0, 1, 2))
        self.assertEqual(open_moves(HALL, (1,), 1), (1, 2))
        self.assertEqual(choices(HALL, (1, 2), 0), ((1, 2, 3), (1, 3), (2, 3)))
        self.assertEqual(heard_of(HALL, (0, 1)), "a")
        self.assertEqual(where_behind(HALL, (1,), 0, (0, 1)), (0, 1))

    def test_by_name(self):
        self.assertEqual(open_moves(face=0, where=(1,), book=HALL), (0, 1, 2))
        self.assertEqual(choices(face=1, where=(1,), book=HALL), ((1,), (1, 2), (2,)))
        self.assertEqual(heard_of(choice=(1,), book=HALL), "")
        self.assertEqual(where_behind(choice=(1,), face=0, where=(0, 1), book=HALL), (0, 1))
        self.assertEqual(outcomes(face=0, where=(0,), book=HALL), (("", (0,)),))

    def test_a_face_that_no_move_names(self):
        for face in (2, 50, 99):
            for where in plain_wheres(HALL):
                self.assertEqual(open_moves(HALL, where, face), ())
                self.assertEqual(choices(HALL, where, face), ((),))
                self.assertEqual(where_behind(HALL, where, face, ()), where)
                self.assertEqual(outcomes(HALL, where, face), (("", where),))

    def test_a_standing_without_an_open_move_stays(self):
        self.assertEqual(choices(HALL, (0, 2), 0), ((3,),))
        self.assertEqual(where_behind(HALL, (0, 2), 0, (3,)), (0, 1))
        self.assertEqual(heard_of(HALL, ()), "")

    def test_rooms_in_which_no_standing_is(self):
        moves = ((0, 1, "a", (0,), (5,), ()), (0, 0, "b", (0,), (), (5,)), (0, 1, "c", (0,), (), (1, 5)))
        book = Book((0, 1), moves, (0,))
        self.assertEqual(open_moves(book, (0,), 0), (0,))
        self.assertEqual(open_moves(book, (0, 1), 0), (0,))

    def test_several_standings_in_one_room(self):
        moves = ((0, 0, "a", (0,), (1,), ()), (0, 3, "b", (0,), (), (1,)), (3, 0, "c", (0,), (), (0, 1)))
        book = Book((0, 1, 1, -1), moves, (0,))
        self.assertEqual(open_moves(book, (0,), 0), (0,))
        self.assertEqual(open_moves(book, (0, 1), 0), (1,))
        self.assertEqual(open_moves(book, (0, 2), 0), (1,))
        self.assertEqual(open_moves(book, (0, 1, 2, 3), 0), (1, 2))
        self.assertEqual(open_moves(book, (1, 3), 0), ())

    def test_letters_are_heard_once_and_ascending(self):
        moves = tuple((0, 0, heard, (0,), (), ()) for heard in ("b", "ac", "bc", ""))
        book = Book((0,), moves, (0,))
        self.assertEqual(heard_of(book, (0, 1, 2, 3)), "abc")
        self.assertEqual(heard_of(book, (0, 2)), "bc")
        self.assertEqual(heard_of(book, (3,)), "")

    def test_some_books(self):
        rng = random.Random(5)
        for _ in range(150):
            book = some_book(rng, standings=4, moves=8)
            for where in plain_wheres(book):
                for face in (0, 1, 2, 3):
                    rows = plain_choices(book, where, face)
                    self.assertEqual(open_moves(book, where, face), plain_open(book, where, face))
                    self.assertEqual(choices(book, where, face), rows)
                    told = [plain_tick(book, where, face, choice) for choice in rows]
                    found = [
                        (heard_of(book, choice), where_behind(book, where, face, choice)) for choice in rows
                    ]
                    self.assertEqual(found, told)
                    self.assertEqual(outcomes(book, where, face), tuple(sorted(set(told))))

    def test_nothing_is_changed(self):
        before = (exact(HALL.rooms), exact(HALL.moves), exact(HALL.first))
        for _ in range(2):
            self.assertEqual(outcomes(HALL, (1,), 0), outcomes(HALL, (1,), 0))
        self.assertEqual(before, (exact(HALL.rooms), exact(HALL.moves), exact(HALL.first)))
        self.assertEqual(FACES, ((False, False), (True, False)))
        self.assertEqual(PLAIN, Device((0, 1), ((0, "a", 1),), (0, 1)))


if __name__ == "__main__":
    unittest.main()

"""Points [14], [15], and logs.py."""

import itertools
import unittest

from housewardens.books import Book
from housewardens.devices import Device
from housewardens.errors import TooMany
from housewardens.logs import can_come, faces_shown, first_log, is_log, logs_that_come, state_behind
from housewardens.lots import lot_behind, stands_met
from housewardens.wards import Ward
from tests.helpers import (
    FACES,
    HALL,
    HUGE,
    ONE_FACE,
    PLAIN,
    STREET,
    STREET_WARD,
    WARD,
    calls_leave_alone,
    error_of,
    plain_wheres,
    some_wards,
    variants,
    wild_values,
)
from tests.plain import BUSY, THREE_FACES, counting_device, plain_face, plain_runs_of, plain_state

LETTERS = "abcdefghijklmnopqrstuvwxyz"


def is_plain_log(thing):
    if type(thing) is not tuple or any(type(heard) is not str for heard in thing):
        return False
    return all(set(heard) <= set(LETTERS) and sorted(set(heard)) == list(heard) for heard in thing)


class Logs(unittest.TestCase):
    def test_any_value(self):
        logs = [(), ("",), ("a", "", "az"), (LETTERS,) * 3, ("z",)]
        for thing in [*wild_values(), *logs, *[value for log in logs for value in variants(log)]]:
            self.assertIs(calls_leave_alone(self, is_log, thing), is_plain_log(thing), thing)
        for thing in (["a"], ("ba",), ("aa",), ("A",), (None,), "a", ("a", 1), (("a",),), (b"a",)):
            self.assertIs(is_log(thing), False)
        self.assertIs(is_log(thing=("a", "")), True)

    def test_states_and_faces(self):
        device = Device((3, 1, 3), ((0, "", 1), (0, "ab", 2), (1, "a", 0)), (0, 2, 1))
        self.assertEqual(state_behind(device, ()), 0)
        self.assertEqual(state_behind(log=("ab", "q", "a"), device=device), 0)
        self.assertEqual(faces_shown(device, ("ab", "q", "a")), (3, 3, 1, 3))
        self.assertEqual(faces_shown(log=(), device=device), (3,))
        for ward in some_wards(40, 101):
            for log in itertools.product(("", "a", "ab", "bc", "xyz"), repeat=3):
                self.assertEqual(state_behind(ward.device, log), plain_state(ward.device, log))
                faces = tuple(plain_face(ward.device, log[:many]) for many in range(4))
                self.assertEqual(faces_shown(ward.device, log), faces)

    def test_what_can_come(self):
        self.assertIs(can_come(WARD, ("a",)), True)
        self.assertIs(can_come(WARD, ("a", "a")), False)
        self.assertIs(can_come(log=(), ward=WARD), True)
        self.assertIs(can_come(STREET_WARD, ("xyz",)), False)
        for ward in some_wards(40, 102):
            logs = {log for _, log, _ in plain_runs_of(ward, 2)}
            for log in itertools.product(("", "a", "b", "ab", "c", "bc", "ac", "abc"), repeat=2):
                self.assertIs(can_come(ward, log), log in logs)


class Yielded(unittest.TestCase):
    def test_all_logs_of_a_length(self):
        self.assertEqual(list(logs_that_come(WARD, 2)), [("", ""), ("", "a"), ("a", "")])
        for ward in [WARD, STREET_WARD, *some_wards(60, 103)]:
            for length in range(4):
                logs = sorted({log for _, log, _ in plain_runs_of(ward, length)})
                self.assertEqual(list(logs_that_come(ward, length)), logs)
        self.assertEqual(list(logs_that_come(length=0, ward=WARD)), [()])

    def test_one_by_one(self):
        moves = tuple((0, 0, letter, (0,), (), ()) for letter in ("", "a", "b", "c", "d", "e"))
        ward = Ward(Book((0,), moves, (0,)), ONE_FACE, Device((0,), (), (0,)))
        for length in (8, 200):
            found = logs_that_come(ward, length)
            self.assertIs(iter(found), found)
            first = list(itertools.islice(found, 200))
            self.assertEqual(first[0], ("",) * length)
            self.assertEqual(first[1], ("",) * (length - 1) + ("a",))
            self.assertEqual(first, sorted(set(first)))
            self.assertTrue(all(can_come(ward, log) for log in first[::20]))
        self.assertEqual(len(list(logs_that_come(ward, 2))), 32 * 32)


class First(unittest.TestCase):
    def test_examples(self):
        self.assertEqual(first_log(WARD, (2,)), ("",))
        self.assertEqual(first_log(WARD, (1,)), ())
        self.assertEqual(first_log(where=(0, 1), ward=WARD, most=3), ("a",))
        self.assertEqual(first_log(STREET_WARD, (0, 1)), ("x",))
        self.assertIsNone(first_log(Ward(HALL, FACES, Device((1,), (), (0,))), (0,)))

    def test_against_all_logs(self):
        for ward in [WARD, STREET_WARD, *some_wards(60, 104)]:
            logs = [log for length in range(4) for log in sorted({log for _, log, _ in plain_runs_of(ward, length)})]
            for where in plain_wheres(ward.book):
                found = first_log(ward, where, most=HUGE)
                rows = [log for log in logs if where in lot_behind(ward, log)]
                self.assertEqual([found] if found is not None and len(found) <= 3 else [], rows[:1])
                if found is None:
                    self.assertFalse(any(where in lot for lot, _ in stands_met(ward, most=HUGE)))

    def test_too_many_wherever_it_comes_first(self):
        for ward in [WARD, STREET_WARD, *some_wards(30, 105)]:
            many = len(stands_met(ward, most=HUGE))
            for where in (ward.book.first, plain_wheres(ward.book)[-1]):
                first_log(ward, where, most=many)
                for most in {many - 1, 0}:
                    error = error_of(first_log, ward, where, most=most)
                    self.assertIs(type(error), TooMany)
                    self.assertEqual(error.most, most)
        ward = Ward(STREET, FACES, Device((0,) * 61, (), (*range(1, 61), 60)))
        self.assertEqual(error_of(first_log, ward, (0,)).most, 60)
        self.assertIs(type(error_of(first_log, WARD, (0,), 60)), TypeError)

    def test_a_large_ward(self):
        ward = Ward(BUSY, THREE_FACES, counting_device("a", 6, 3))
        log = first_log(ward, (0, 1, 2, 3), most=1000)
        self.assertIn((0, 1, 2, 3), lot_behind(ward, log))
        self.assertFalse(any((0, 1, 2, 3) in lot_behind(ward, log[:many]) for many in range(len(log))))


if __name__ == "__main__":
    unittest.main()

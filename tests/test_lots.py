"""Points [14], [15], and lots.py."""

import itertools
import unittest

from housewardens.books import Book
from housewardens.devices import Device
from housewardens.errors import CannotCome, TooMany
from housewardens.lots import (
    answers,
    first_lot,
    is_lot,
    lot_after,
    lot_behind,
    perhaps_there,
    stands_met,
    surely_there,
)
from housewardens.wards import Ward
from tests.helpers import (
    FACES,
    HALL,
    HUGE,
    PLAIN,
    STREET,
    STREET_WARD,
    WARD,
    calls_leave_alone,
    error_of,
    plain_wheres,
    some_wards,
    subsets,
    variants,
    wild_values,
)
from tests.plain import BUSY, THREE_FACES, counting_device, is_plain_lot, plain_answers, plain_runs_of, plain_stands

BEHIND_A = ((0,), (0, 1), (0, 1, 2), (0, 2))


class Lots(unittest.TestCase):
    def test_examples(self):
        self.assertEqual(first_lot(HALL), ((1,),))
        self.assertEqual(first_lot(book=Book((0, 1, -1), (), (0, 2))), ((0, 2),))
        self.assertEqual(answers(HALL, ((1,),), 0), (("", ((1,), (1, 2), (2,))), ("a", BEHIND_A)))
        self.assertEqual(answers(HALL, ((1,),), 1), (("", ((1,), (1, 2), (2,))),))
        self.assertEqual(lot_after(HALL, ((1,),), 0, "a"), BEHIND_A)
        self.assertEqual(lot_after(heard="a", face=1, lot=((1,),), book=HALL), ())

    def test_the_empty_lot(self):
        self.assertIs(is_lot(HALL, ()), True)
        self.assertEqual(answers(HALL, (), 0), ())
        self.assertEqual(lot_after(HALL, (), 0, ""), ())

    def test_faces_that_no_move_names(self):
        lot = ((0,), (0, 1), (2,))
        self.assertEqual(answers(HALL, lot, 99), (("", lot),))
        self.assertEqual(lot_after(HALL, lot, 7, "a"), ())

    def test_what_cannot_be_heard(self):
        for heard in ("b", "z", "ab", "abcdefghijklmnopqrstuvwxyz"):
            self.assertEqual(lot_after(HALL, ((1,),), 0, heard), ())

    def test_standings_without_moves_and_moves_twice(self):
        book = Book((0, -1, 0), ((0, 1, "a", (0,), (), ()), (0, 1, "a", (0,), (), ())), (0, 2))
        self.assertEqual(answers(book, ((0, 2),), 0), (("a", ((1, 2),)),))
        self.assertEqual(answers(book, ((1, 2), (2,)), 0), (("", ((1, 2), (2,))),))

    def test_against_all_choices(self):
        for ward in [WARD, STREET_WARD, *some_wards(60, 91)]:
            wheres = plain_wheres(ward.book)
            lots = [tuple(wheres), tuple(wheres[::2]), (ward.book.first,), ()]
            for lot, face in itertools.product(lots, range(3)):
                lot = tuple(sorted(lot))
                found = plain_answers(ward.book, lot, face)
                self.assertEqual(answers(ward.book, lot, face), found)
                for heard in ("", "a", "b", "ab", "abc", "c", "q"):
                    self.assertEqual(lot_after(ward.book, lot, face, heard), dict(found).get(heard, ()))

    def test_any_value(self):
        for book in (STREET, HALL):
            for thing in [*wild_values(), *variants(((0,), (0, 1), (1,))), *subsets(plain_wheres(book))]:
                found = calls_leave_alone(self, lambda value: is_lot(book, value), thing)
                self.assertIs(found, is_plain_lot(book, thing), thing)
        for thing in (((0,), (0,)), ((0, 1), (0,)), [(0,)], ([0],), ((0, 2),), ((),), ((True,),), ((1, 0),), (0,)):
            self.assertIs(is_lot(STREET, thing), False, thing)
        self.assertIs(is_lot(thing=((0,), (0, 1)), book=STREET), True)


class Behind(unittest.TestCase):
    def test_examples(self):
        self.assertEqual(lot_behind(WARD, ("", "a")), BEHIND_A)
        self.assertEqual(lot_behind(log=(), ward=WARD), ((1,),))
        self.assertEqual(surely_there(WARD, ("a",)), (0,))
        self.assertEqual(perhaps_there(log=("a",), ward=WARD), (0, 1, 2))
        self.assertEqual(surely_there(WARD, ()), (1,))
        self.assertEqual(lot_behind(WARD, ("a", "a")), ())
        self.assertEqual(lot_behind(WARD, ("a", "a", "", "zz")), ())

    def test_what_cannot_come(self):
        cases = (
            (("a", "a"), 1), (("a", "a", ""), 1), (("q",), 0), (("", "", "ab", "a"), 2), (("a", "", "", "z", "z"), 3)
        )  # fmt: skip
        for log, place in cases:
            for call in (surely_there, perhaps_there):
                error = error_of(call, WARD, log)
                self.assertIs(type(error), CannotCome)
                self.assertEqual(error.place, place)

    def test_against_all_runs(self):
        heard = ("", "a", "b", "ab", "c", "ac", "abc", "bc", "q")
        for ward in [WARD, STREET_WARD, *some_wards(40, 92)]:
            for length in range(3):
                rows = plain_runs_of(ward, length)
                for log in itertools.product(heard, repeat=length):
                    lot = tuple(sorted({where for _, made, (where, _) in rows if made == log}))
                    self.assertEqual(lot_behind(ward, log), lot)
                    if lot:
                        surely = set.intersection(*[set(where) for where in lot])
                        self.assertEqual(surely_there(ward, log), tuple(sorted(surely)))
                        perhaps = set.union(*[set(where) for where in lot])
                        self.assertEqual(perhaps_there(ward, log), tuple(sorted(perhaps)))

    def test_long_logs(self):
        ward = Ward(BUSY, THREE_FACES, counting_device("a", 6, 3))
        self.assertEqual(lot_behind(ward, ("z",) * 60), ())
        self.assertEqual(error_of(surely_there, WARD, ("",) * 60 + ("b",)).place, 60)


class Stands(unittest.TestCase):
    def test_examples(self):
        self.assertEqual(len(stands_met(WARD)), 3)
        self.assertEqual(stands_met(most=3, ward=WARD), stands_met(WARD))

    def test_against_all_logs(self):
        for ward in [WARD, STREET_WARD, *some_wards(60, 93)]:
            stands = plain_stands(ward)
            self.assertEqual(stands_met(ward, most=HUGE), stands)
            self.assertEqual(stands_met(ward, most=len(stands)), stands)
            for most in {len(stands) - 1, 0}:
                error = error_of(stands_met, ward, most=most)
                self.assertIs(type(error), TooMany)
                self.assertEqual(error.most, most)

    def test_the_default(self):
        ward = Ward(STREET, FACES, Device((0,) * 61, (), (*range(1, 61), 60)))
        self.assertEqual(error_of(stands_met, ward).most, 60)
        self.assertIs(type(error_of(stands_met, ward, 100)), TypeError)
        self.assertGreater(len(stands_met(ward, most=1000)), 60)

    def test_no_more_is_needed_of_the_past(self):
        for ward in [WARD, *some_wards(20, 94)]:
            ends = {}
            for _, log, _ in plain_runs_of(ward, 2):
                state = 0
                for heard in log:
                    state = ward.device.led(state, heard)
                ends.setdefault((lot_behind(ward, log), state), []).append(log)
            for (lot, state), logs in ends.items():
                for heard in ("", "a", "b"):
                    rows = {lot_behind(ward, log + (heard,)) for log in logs}
                    self.assertEqual(rows, {lot_after(ward.book, lot, ward.device.shown[state], heard)})


if __name__ == "__main__":
    unittest.main()

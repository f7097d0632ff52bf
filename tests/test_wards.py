"""Point [6] and the first half of wards.py: wards, pictures, ticks and runs."""

import random
import unittest

from housewardens.books import Book
from housewardens.devices import Device
from housewardens.errors import BadChoice, BadWard
from housewardens.wards import Ward, along, choices_in, first_picture, is_picture, is_run, log_of, tick
from tests.helpers import (
    FACES,
    HALL,
    PLAIN,
    STREET_WARD,
    WARD,
    calls_leave_alone,
    error_of,
    exact,
    is_among,
    plain_pictures,
    plain_runs,
    plain_ticks,
    plain_wheres,
    some_run,
    some_wards,
    variants,
    wild_values,
)


class Making(unittest.TestCase):
    def test_attributes(self):
        ward = Ward(device=PLAIN, faces=FACES, book=HALL)
        self.assertEqual((ward.book, ward.faces, ward.device), (HALL, FACES, PLAIN))

    def test_any_faces(self):
        single = Device((0,), (), (0,))
        for faces in [*wild_values(), *variants(FACES), [list(face) for face in FACES], ((0, 0), (1, 0))]:
            error = error_of(Ward, HALL, faces, single)
            right = type(faces) is tuple and len(faces) > 0
            for face in faces if right else ():
                right = right and type(face) is tuple and [type(part) for part in face] == [bool, bool]
            if right:
                self.assertIsNone(error, faces)
            else:
                self.assertIs(type(error), BadWard, faces)
                self.assertEqual(error.part, "faces")

    def test_a_device_that_shows_the_number_of_no_face(self):
        for shown in ((0, 2), (2, 0), (99, 1)):
            error = error_of(Ward, HALL, FACES, Device(shown, (), (0, 0)))
            self.assertIs(type(error), BadWard)
            self.assertEqual(error.part, "device")
        self.assertIsNone(error_of(Ward, HALL, FACES, Device((1, 0), (), (0, 0))))

    def test_faces_go_ahead_of_the_device(self):
        self.assertEqual(error_of(Ward, HALL, (), Device((5,), (), (0,))).part, "faces")

    def test_moves_may_name_other_faces(self):
        book = Book((0,), ((0, 0, "a", (0, 7, 99), (), ()), (0, 0, "b", (5,), (), ())), (0,))
        ward = Ward(book, ((False, False),), Device((0,), (), (0,)))
        self.assertEqual(choices_in(ward, ((0,), 0)), ((0,),))

    def test_equal(self):
        self.assertTrue(WARD == Ward(HALL, FACES, PLAIN))
        for other in (
            Ward(HALL.without_moves((0,)), FACES, PLAIN),
            Ward(HALL, ((True, False), (True, False)), PLAIN),
            Ward(HALL, FACES + ((False, False),), PLAIN),
            Ward(HALL, FACES, Device((0,), (), (0,))),
        ):
            self.assertFalse(WARD == other)
            self.assertTrue(WARD != other)

    def test_no_other_value_is_equal(self):
        parts = (HALL, FACES, PLAIN)
        for other in [*wild_values(), parts, list(parts), str(WARD), HALL, PLAIN, FACES]:
            if other is not WARD:
                self.assertIs(WARD == other, False)
                self.assertIs(other == WARD, False)


class Pictures(unittest.TestCase):
    def test_first(self):
        self.assertEqual(first_picture(WARD), ((1,), 0))
        self.assertEqual(first_picture(ward=Ward(Book((0, 1), (), (0, 1)), FACES, PLAIN)), ((0, 1), 0))

    def test_all_pictures(self):
        for where in plain_wheres(HALL):
            for state in (0, 1):
                self.assertIs(is_picture(WARD, (where, state)), True)
        self.assertIs(is_picture(ward=WARD, thing=((0,), 1)), True)

    def test_any_value(self):
        rights = [(where, state) for where in plain_wheres(HALL) for state in (0, 1)]
        more = [((1,), 2), ((1,), -1), ((3,), 0), ((), 0), ((1,), False), ([1], 0), ((1, 0), 0), ((1,),), ((1,), 0, 0)]
        for thing in [*wild_values(), *variants(((0, 1), 1)), *more]:
            found = calls_leave_alone(self, lambda told: is_picture(WARD, told), thing)
            self.assertIs(found, is_among(thing, rights), thing)


class Ticks(unittest.TestCase):
    def test_examples(self):
        self.assertEqual(tick(WARD, ((1,), 0), (0, 1)), ("a", ((0, 1), 1)))
        self.assertEqual(tick(choice=(1,), picture=((1,), 0), ward=WARD), ("", ((1,), 0)))
        self.assertEqual(choices_in(picture=((1,), 1), ward=WARD), ((1,), (1, 2), (2,)))

    def test_nobody_can_do_anything(self):
        ward = Ward(Book((0, 1), (), (0, 1)), FACES, PLAIN)
        self.assertEqual(choices_in(ward, ((0, 1), 0)), ((),))
        self.assertEqual(tick(ward, ((0, 1), 0), ()), ("", ((0, 1), 0)))

    def test_the_device_goes_on_by_what_is_heard_together(self):
        book = Book((0, 1), ((0, 0, "a", (0,), (), ()), (1, 1, "b", (0,), (), ())), (0, 1))
        device = Device((0, 1, 1, 1), ((0, "a", 1), (0, "ab", 2), (0, "b", 3)), (0, 1, 2, 3))
        self.assertEqual(tick(Ward(book, FACES, device), ((0, 1), 0), (0, 1)), ("ab", ((0, 1), 2)))

    def test_any_choice(self):
        for picture in (((1,), 0), ((1, 2), 0), ((0,), 1), ((0, 1, 2), 1)):
            rows = {choice: (heard, further) for choice, heard, further in plain_ticks(WARD, picture)}
            self.assertEqual(choices_in(WARD, picture), tuple(sorted(rows)))
            more = [thing for choice in rows for thing in (choice, *variants(choice))]
            for thing in [*wild_values(), *more, (0, 1, 2, 3), (4,), (-1,), (2, 1), (1, 1)]:
                if is_among(thing, rows):
                    self.assertEqual(tick(WARD, picture, thing), rows[thing])
                else:
                    error = error_of(tick, WARD, picture, thing)
                    self.assertIs(type(error), BadChoice, thing)
                    self.assertIs(error.choice, thing)

    def test_some_wards(self):
        for ward in some_wards(80, 11):
            for picture in plain_pictures(ward):
                rows = list(plain_ticks(ward, picture))
                self.assertEqual(choices_in(ward, picture), tuple(choice for choice, _, _ in rows))
                for choice, heard, further in rows:
                    self.assertEqual(tick(ward, picture, choice), (heard, further))


class Runs(unittest.TestCase):
    def test_the_empty_run(self):
        self.assertIs(is_run(WARD, ()), True)
        self.assertEqual(along(WARD, ()), (((1,), 0),))
        self.assertEqual(log_of(WARD, ()), ())

    def test_a_run(self):
        run = ((0, 1), (1, 2))
        self.assertIs(is_run(WARD, run), True)
        self.assertEqual(along(WARD, run), (((1,), 0), ((0, 1), 1), ((0, 1, 2), 1)))
        self.assertEqual(log_of(WARD, run), ("a", ""))
        self.assertIs(is_run(thing=run, ward=WARD), True)
        self.assertEqual(along(run=run, ward=WARD)[-1], ((0, 1, 2), 1))
        self.assertEqual(log_of(run=run, ward=WARD), ("a", ""))

    def test_any_value(self):
        rights = [run for run, _ in plain_runs(WARD, 3)]
        for thing in [*wild_values(), *variants(((0, 1), (1, 2))), *variants(((),)), ((0,), (0,)), ((0,), (), ())]:
            if type(thing) is tuple and len(thing) > 3:
                continue
            found = calls_leave_alone(self, lambda told: is_run(WARD, told), thing)
            self.assertIs(found, is_among(thing, rights), thing)

    def test_wild_runs_that_are_long(self):
        for thing in ((),) * 5000, tuple(range(4999)), ((1,),) * 300 + (None,):
            self.assertIs(is_run(WARD, thing), False)
        self.assertIs(is_run(WARD, ((1,),) * 300), True)

    def test_some_wards(self):
        rng = random.Random(13)
        for ward in some_wards(60, 12):
            run = some_run(rng, ward, 5)
            self.assertIs(is_run(ward, run), True)
            picture, pictures, log = first_picture(ward), [first_picture(ward)], []
            for choice in run:
                rows = {made: (heard, further) for made, heard, further in plain_ticks(ward, picture)}
                heard, picture = rows[choice]
                pictures.append(picture)
                log.append(heard)
            self.assertEqual(along(ward, run), tuple(pictures))
            self.assertEqual(log_of(ward, run), tuple(log))
            rights = {exact(told) for told, _ in plain_runs(ward, 1)}
            for thing in variants(run[:1], [0, (), (0,), (True,), [0], None]):
                if type(thing) is not tuple or len(thing) < 2:
                    self.assertIs(is_run(ward, thing), exact(thing) in rights, thing)

    def test_street(self):
        self.assertIs(is_run(STREET_WARD, ((0, 1), (0, 1))), True)
        self.assertIs(is_run(STREET_WARD, ((1,), (0,))), False)
        self.assertIs(is_run(STREET_WARD, ((1,), ())), True)


if __name__ == "__main__":
    unittest.main()

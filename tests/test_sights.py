"""Points [35] to [37], and sights.py."""

import random
import unittest

from housewardens.books import Book
from housewardens.crowds import crowds_met
from housewardens.devices import Device
from housewardens.errors import OtherFaces
from housewardens.lots import lot_behind
from housewardens.onlookers import Onlooker
from housewardens.sights import (
    do_look_alike,
    knows_empty,
    knows_somebody,
    notes_of,
    possible_crowds,
    possible_pictures,
)
from housewardens.walks import can_make, fewest_people
from housewardens.wards import Ward, along, log_of
from tests.helpers import HALL, STREET, STREET_WARD, WARD, error_of, some_run, some_wards
from tests.plain import counting_device
from tests.plain_sights import (
    DEAF,
    EAR,
    plain_knows,
    plain_notes,
    plain_possible,
    plain_possible_crowds,
    some_onlooker,
    where_of_pair,
)

RUN = ((0,), (0, 1))


def watches(many, seed, longest=2):
    """Small wards, onlookers, and runs of two lengths."""
    rng = random.Random(seed)
    for ward in [WARD, STREET_WARD, Ward(STREET, ((False, False),), counting_device("x", 3)), *some_wards(many, seed)]:
        for _ in range(2):
            yield ward, some_onlooker(rng, len(ward.faces)), some_run(rng, ward, rng.randint(0, longest))
        yield ward, Onlooker("abcdex", tuple(range(len(ward.faces)))), some_run(rng, ward, longest)


class Sights(unittest.TestCase):
    def test_examples(self):
        self.assertEqual(notes_of(STREET_WARD, EAR, RUN), (((0, ""), (0, "x")), 0))
        self.assertEqual(notes_of(run=RUN, onlooker=EAR, ward=STREET_WARD), (((0, ""), (0, "x")), 0))
        self.assertEqual(possible_pictures(STREET_WARD, EAR, RUN), (((0, 1), 0), ((1,), 0)))
        self.assertEqual(possible_crowds(STREET_WARD, EAR, RUN, 2), (((0, 2), 0), ((1, 1), 0)))
        self.assertEqual(possible_crowds(many=1, run=((0,), (1,)), onlooker=EAR, ward=STREET_WARD), (((0, 1), 0),))
        self.assertIs(do_look_alike(STREET_WARD, EAR, RUN, ((0,), (1,))), True)
        self.assertIs(do_look_alike(further=RUN, run=((0,), (0,)), onlooker=EAR, ward=STREET_WARD), False)
        self.assertIs(do_look_alike(STREET_WARD, DEAF, RUN, ((0,), (0,))), True)
        self.assertIs(do_look_alike(STREET_WARD, DEAF, RUN, ((0,),)), False)

    def test_notes_by_the_words(self):
        for ward, onlooker, run in watches(40, 341, 4):
            self.assertEqual(notes_of(ward, onlooker, run), plain_notes(ward, onlooker, run))

    def test_all_runs_that_look_alike(self):
        for ward, onlooker, run in watches(30, 342):
            right = plain_possible(ward, onlooker, run)
            self.assertEqual(possible_pictures(ward, onlooker, run), right)
            self.assertIn(along(ward, run)[-1], right)
            found = (knows_empty(ward, onlooker, run), knows_somebody(run=run, onlooker=onlooker, ward=ward))
            self.assertEqual(found, (plain_knows(ward, "empty", right), plain_knows(ward, "somebody", right)))
            self.assertTrue(all(type(row) is bool for row in found))
            self.assertFalse(all(found))

    def test_look_alike(self):
        for ward, onlooker, run in watches(30, 343):
            for other, further, last in watches(0, 344):
                if other is ward:
                    right = plain_notes(ward, onlooker, run) == plain_notes(ward, onlooker, last)
                    self.assertIs(do_look_alike(ward, onlooker, run, last), right)
            self.assertIs(do_look_alike(ward, onlooker, run, run), True)

    def test_knows(self):
        self.assertIs(knows_somebody(STREET_WARD, EAR, ()), True)
        self.assertIs(knows_empty(STREET_WARD, EAR, ()), False)
        self.assertIs(knows_somebody(STREET_WARD, EAR, ((0,), (0,))), True)
        self.assertIs(knows_somebody(STREET_WARD, DEAF, ((0,), (0,))), False)
        for run in (RUN, ((1,),), ((0,), (1,))):
            self.assertIs(knows_empty(STREET_WARD, EAR, run), False)
            self.assertIs(knows_somebody(STREET_WARD, EAR, run), False)
        # Where all have to go at once, it is known that nobody is within.
        ward = Ward(Book((0, -1), ((0, 1, "", (0,), (), ()),), (0,)), ((False, False),), Device((0,), (), (0,)))
        self.assertIs(knows_empty(ward, DEAF, ((0,),)), True)
        self.assertIs(knows_somebody(ward, DEAF, ((0,),)), False)

    def test_classes_of_faces(self):
        # The device hears x and shows another face then: who sees faces need not hear.
        faces = ((False, False), (False, False), (True, True))
        device = Device((0, 1), ((0, "x", 1),), (0, 1))
        book = Book(STREET.rooms, tuple((*move[:3], (0, 1), (), ()) for move in STREET.moves), (0,))
        ward = Ward(book, faces, device)
        sees, blind = Onlooker("", (0, 1, 1)), Onlooker("", (4, 4, 4))
        self.assertEqual(notes_of(ward, sees, RUN), (((0, ""), (0, "")), 1))
        self.assertEqual(notes_of(ward, blind, RUN), (((0, ""), (0, "")), 0))
        self.assertEqual(possible_pictures(ward, sees, RUN), (((0, 1), 1), ((1,), 1)))
        rights = (((0,), 0), ((0, 1), 1), ((1,), 1))
        self.assertEqual(possible_pictures(ward, blind, RUN), rights)
        self.assertIs(knows_somebody(ward, sees, ((0,), (0,))), True)
        self.assertIs(knows_somebody(ward, blind, ((0,), (0,))), False)

    def test_more_is_known_with_more(self):
        rng = random.Random(345)
        for ward, onlooker, run in watches(40, 346, 3):
            other = some_onlooker(rng, len(ward.faces))
            both = onlooker | other
            pictures = set(possible_pictures(ward, both, run))
            for one in (onlooker, other):
                self.assertLessEqual(pictures, set(possible_pictures(ward, one, run)))
                if knows_empty(ward, one, run):
                    self.assertIs(knows_empty(ward, both, run), True)
                if knows_somebody(ward, one, run):
                    self.assertIs(knows_somebody(ward, both, run), True)

    def test_who_hears_and_sees_all_knows_the_lot(self):
        for ward, _, run in watches(40, 347, 4):
            onlooker = Onlooker("abcdefghijklmnopqrstuvwxyz", tuple(range(len(ward.faces))))
            pictures = possible_pictures(ward, onlooker, run)
            state = along(ward, run)[-1][1]
            self.assertEqual(pictures, tuple((where, state) for where in lot_behind(ward, log_of(ward, run))))

    def test_crowds(self):
        for ward, onlooker, run in watches(25, 348):
            fewest = fewest_people(ward, run)
            ahead = set()
            for many in range(fewest, min(fewest + 2, 5)):
                found = possible_crowds(ward, onlooker, run, many)
                self.assertEqual(found, plain_possible_crowds(ward, onlooker, run, many))
                pictures = {where_of_pair(pair) for pair in found}
                self.assertLessEqual(pictures, set(possible_pictures(ward, onlooker, run)))
                self.assertLessEqual(ahead, pictures)
                self.assertIn(along(ward, run)[-1], pictures)
                ahead = pictures

    def test_each_possible_picture_is_possible_for_some_number(self):
        for ward, onlooker, run in watches(8, 349):
            if len(ward.book.rooms) == 2:
                found = {where_of_pair(pair) for pair in possible_crowds(ward, onlooker, run, 6)}
                self.assertEqual(found, set(possible_pictures(ward, onlooker, run)))

    def test_a_number_that_is_told(self):
        # One person alone cannot be in two standings; of two both may have gone.
        self.assertEqual(possible_crowds(STREET_WARD, EAR, (), 3), (((3, 0), 0),))
        self.assertEqual(possible_crowds(STREET_WARD, DEAF, ((0,), (0,)), 1), (((0, 1), 0), ((1, 0), 0)))
        self.assertIs(can_make(STREET_WARD, RUN, 2), True)
        self.assertEqual(len(possible_crowds(WARD, Onlooker("", (0, 0)), ((1,),) * 4, 6)), len(crowds_met(WARD, 6)))

    def test_other_faces(self):
        for onlooker in (Onlooker("", (0,)), Onlooker("", (0, 1, 2)), Onlooker("", (0, 0, 0))):
            for call in (notes_of, possible_pictures, knows_empty, knows_somebody):
                self.assertIs(type(error_of(call, WARD, onlooker, ())), OtherFaces)
                # Ahead of all else: also by what is no run.
                self.assertIs(type(error_of(call, WARD, onlooker, ((9,),))), OtherFaces)
            self.assertIs(type(error_of(do_look_alike, WARD, onlooker, (), ((9,),))), OtherFaces)
            self.assertIs(type(error_of(possible_crowds, WARD, onlooker, ((9,),), 1)), OtherFaces)

    def test_long_runs(self):
        rng = random.Random(350)
        ward = Ward(HALL, WARD.faces, counting_device("a", 2, 2))
        run = some_run(rng, ward, 40)
        for onlooker in (Onlooker("", (0, 0)), Onlooker("a", (0, 1))):
            self.assertEqual(len(notes_of(ward, onlooker, run)[0]), 40)
            self.assertIn(along(ward, run)[-1], possible_pictures(ward, onlooker, run))


if __name__ == "__main__":
    unittest.main()

"""Point [12], and crowds.py."""

import unittest

from housewardens.books import Book
from housewardens.crowds import crowds_behind, crowds_met, first_crowds
from housewardens.devices import Device
from housewardens.errors import TooMany
from housewardens.wards import Ward, pictures_of
from tests.helpers import FACES, HUGE, ONE_FACE, PLAIN, STREET, STREET_WARD, WARD, error_of, some_wards
from tests.plain import (
    BUSY,
    THREE_FACES,
    counting_device,
    plain_crowds_met,
    plain_first_crowds,
    plain_goings,
    where_of,
)

PAIR = Ward(Book((0, -1, 2), (), (0, 2)), FACES, PLAIN)


class Crowds(unittest.TestCase):
    def test_examples(self):
        self.assertEqual(first_crowds(STREET_WARD, 2), ((2, 0),))
        self.assertEqual(crowds_met(STREET_WARD, 2), (((0, 2), 0), ((1, 1), 0), ((2, 0), 0)))
        self.assertEqual(crowds_met(many=2, ward=STREET_WARD, most=3), crowds_met(STREET_WARD, 2))

    def test_too_few_to_begin(self):
        for ward in (STREET_WARD, WARD, PAIR):
            self.assertEqual(first_crowds(ward, 0), ())
            self.assertEqual(crowds_met(ward, 0), ())
            self.assertEqual(crowds_met(ward, 0, most=0), ())
        self.assertEqual(first_crowds(PAIR, 1), ())
        self.assertEqual(crowds_met(PAIR, 1, most=0), ())
        self.assertEqual(first_crowds(many=4, ward=PAIR), ((1, 0, 3), (2, 0, 2), (3, 0, 1)))

    def test_a_tick(self):
        self.assertEqual(crowds_behind(STREET_WARD, ((2, 1), 0)), (((0, 3), 0), ((1, 2), 0), ((2, 1), 0)))
        self.assertEqual(crowds_behind(pair=((0, 3), 0), ward=STREET_WARD), (((0, 3), 0),))
        ward = Ward(STREET, ONE_FACE, counting_device("x", 3))
        self.assertEqual(crowds_behind(ward, ((2, 0), 0)), (((0, 2), 1), ((1, 1), 1), ((2, 0), 0)))

    def test_doubled_moves(self):
        moves = ((0, 1, "a", (0,), (), ()), (0, 1, "b", (0,), (), ()), (0, 1, "a", (0,), (), ()))
        ward = Ward(Book((0, -1), moves, (0,)), ONE_FACE, Device((0, 0), ((0, "ab", 1),), (0, 1)))
        self.assertEqual(crowds_behind(ward, ((1, 0), 0)), (((0, 1), 0),))
        self.assertEqual(crowds_behind(ward, ((2, 0), 0)), (((0, 2), 0), ((0, 2), 1)))

    def test_against_each_person_by_itself(self):
        for ward in [STREET_WARD, WARD, PAIR, *some_wards(60, 71)]:
            for many in range(5):
                self.assertEqual(first_crowds(ward, many), plain_first_crowds(ward, many))
                met = plain_crowds_met(ward, many)
                self.assertEqual(crowds_met(ward, many), met)
                for pair in met[:6]:
                    behind = tuple(sorted({further for _, further in plain_goings(ward, pair)}))
                    self.assertEqual(crowds_behind(ward, pair), behind)

    def test_too_many(self):
        for ward in [STREET_WARD, WARD, *some_wards(25, 72)]:
            for many in (1, 3):
                met = crowds_met(ward, many)
                self.assertEqual(crowds_met(ward, many, most=len(met)), met)
                for most in {len(met) - 1, 0} if met else ():
                    error = error_of(crowds_met, ward, many, most=most)
                    self.assertIs(type(error), TooMany)
                    self.assertEqual(error.most, most)
        self.assertIs(type(error_of(crowds_met, WARD, 2, 1500)), TypeError)

    def test_six_people(self):
        ward = Ward(BUSY, THREE_FACES, counting_device("a", 6, 3))
        met = crowds_met(ward, 6, most=HUGE)
        self.assertGreater(len(met), 200)
        self.assertTrue(all(sum(crowd) == 6 for crowd, _ in met))
        self.assertLessEqual({(where_of(crowd), state) for crowd, state in met}, set(pictures_of(ward, most=HUGE)))


if __name__ == "__main__":
    unittest.main()

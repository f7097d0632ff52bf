"""Point [35], and onlookers.py."""

import itertools
import random
import unittest

from housewardens.errors import BadOnlooker, OtherFaces
from housewardens.onlookers import Onlooker
from tests.helpers import HALL, HUGE, PLAIN, WARD, calls_leave_alone, error_of, variants, wild_values
from tests.plain_guests import THIEF
from tests.plain_sights import EAR, plain_classes, some_onlooker

LETTERS = "abcdefghijklmnopqrstuvwxyz"


def plain_fault(letters, classes):
    """The part of the error that Onlooker has to raise, or None."""
    if type(letters) is not str or not set(letters) <= set(LETTERS) or sorted(set(letters)) != list(letters):
        return "letters"
    if type(classes) is not tuple or not classes or any(type(part) is not int or part < 0 for part in classes):
        return "classes"
    return None


class Making(unittest.TestCase):
    def check(self, letters, classes):
        fault = plain_fault(letters, classes)
        for error in (error_of(Onlooker, letters, classes), error_of(Onlooker, classes=classes, letters=letters)):
            if fault is None:
                self.assertIsNone(error)
            else:
                self.assertIs(type(error), BadOnlooker, (letters, classes))
                self.assertEqual(error.part, fault)

    def test_classes_are_put_anew(self):
        self.assertEqual(Onlooker("x", (5, 2, 5)).classes, (0, 1, 0))
        self.assertEqual(Onlooker("x", (5, 2, 5)).letters, "x")
        self.assertEqual(Onlooker("", (7,)).classes, (0,))
        self.assertEqual(Onlooker("", (HUGE, 0, 3, 0, HUGE)).classes, (0, 1, 2, 1, 0))
        for row in itertools.product(range(3), repeat=4):
            self.assertEqual(Onlooker("", row).classes, plain_classes(row))

    def test_any_value(self):
        for thing in [*wild_values(), *variants("ab"), LETTERS, LETTERS[::-1], "az", "za", "a b", THIEF, EAR]:
            self.check(thing, (0,))
            self.check(thing, None)
            self.check(thing, ())
        for thing in [*wild_values(), *variants((5, 2, 5)), (0, -1), (0, 1, True), THIEF, EAR, tuple(range(60))]:
            self.check("ab", thing)
            self.check("ba", thing)
            calls_leave_alone(self, lambda value: error_of(Onlooker, "", value) is None, thing)

    def test_many_classes(self):
        self.assertEqual(Onlooker("", tuple(range(4999, 0, -1))).classes, tuple(range(4999)))

    def test_equal(self):
        self.assertEqual(Onlooker("ab", (3, 3, 1)), Onlooker("ab", (0, 0, 9)))
        self.assertNotEqual(Onlooker("ab", (0, 0, 1)), Onlooker("a", (0, 0, 1)))
        self.assertNotEqual(Onlooker("ab", (0, 0, 1)), Onlooker("ab", (0, 1, 1)))
        self.assertNotEqual(Onlooker("ab", (0,)), Onlooker("ab", (0, 0)))
        for thing in [*wild_values(), HALL, PLAIN, WARD, THIEF, ("x", (0,)), ["x", (0,)]]:
            self.assertIs(EAR == thing, False)
            self.assertIs(EAR != thing, True)
        self.assertIs(EAR == EAR, True)


class Pooling(unittest.TestCase):
    def test_examples(self):
        found = Onlooker("a", (0, 0, 1)) | Onlooker("b", (0, 1, 1))
        self.assertEqual(found, Onlooker("ab", (0, 1, 2)))
        self.assertEqual(found.letters, "ab")
        self.assertEqual(found.classes, (0, 1, 2))

    def test_all_small_onlookers(self):
        rows = [Onlooker(letters, row) for letters in ("", "b", "ac") for row in itertools.product(range(3), repeat=3)]
        for one, other in itertools.product(rows[::2], rows[::3]):
            both = one | other
            self.assertIs(type(both), Onlooker)
            self.assertEqual(both.letters, "".join(sorted(set(one.letters) | set(other.letters))))
            self.assertEqual(both.classes, plain_classes(tuple(zip(one.classes, other.classes))))
            self.assertEqual(both, other | one)
            self.assertIs(both.sees_all_of(one), True)
            self.assertIs(both.sees_all_of(other=other), True)
            self.assertIs(one.sees_all_of(other), both == one)

    def test_sees_all(self):
        one = Onlooker("abc", (0, 1, 1))
        self.assertIs(one.sees_all_of(one), True)
        self.assertIs(one.sees_all_of(Onlooker("ac", (0, 0, 0))), True)
        self.assertIs(one.sees_all_of(Onlooker("", (1, 0, 0))), True)
        self.assertIs(one.sees_all_of(Onlooker("abcd", (0, 0, 0))), False)
        self.assertIs(one.sees_all_of(Onlooker("", (0, 0, 1))), False)
        self.assertIs(one.sees_all_of(Onlooker("", (0, 1, 2))), False)
        self.assertIs(Onlooker("", (0, 1, 2)).sees_all_of(Onlooker("", (0, 1, 0))), True)

    def test_unlike_numbers_of_classes(self):
        for one, other in itertools.permutations((Onlooker("a", (0,)), Onlooker("", (0, 0)), Onlooker("ab", (0, 1, 2))), 2):
            self.assertIs(type(error_of(lambda: one | other)), OtherFaces)
            self.assertIs(type(error_of(one.sees_all_of, other)), OtherFaces)

    def test_both_stay_as_they_were(self):
        rng = random.Random(331)
        for _ in range(40):
            one, other = some_onlooker(rng, 3), some_onlooker(rng, 3)
            kept = (one.letters, one.classes, other.letters, other.classes)
            self.assertEqual(one | other, one | other)
            one.sees_all_of(other)
            self.assertEqual(kept, (one.letters, one.classes, other.letters, other.classes))


if __name__ == "__main__":
    unittest.main()

"""Points [18], [20], plays.py and cuts.py."""

import itertools
import unittest

from housewardens.cuts import answers_by_ears, cut_heard
from housewardens.lots import answers
from housewardens.plays import is_waiting, safe_faces
from tests.helpers import ALL_HARMS, FACES, HALL, plain_wheres, some_wards
from tests.plain import CLOCKED, THREE_FACES, plain_answers, plain_cut, plain_safe, plain_waiting

EARS = (None, "", "a", "ab", "bc", "c", "abc", "z", "abcdefghijklmnopqrstuvwxyz")


class Cuts(unittest.TestCase):
    def test_strings(self):
        self.assertEqual(cut_heard("abd", "bcd"), "bd")
        self.assertEqual(cut_heard(ears=None, heard="abd"), "abd")
        self.assertEqual(cut_heard("abd", ""), "")
        self.assertEqual(cut_heard("", "abc"), "")
        self.assertEqual(cut_heard("xz", "abcyz"), "z")

    def test_answers(self):
        lot = ((0,), (1,))
        self.assertEqual(answers_by_ears(CLOCKED, ((0,),), 0, "c"), (("", ((0,), (0, 1), (1,))),))
        self.assertEqual(answers_by_ears(CLOCKED, lot, 0, None), answers(CLOCKED, lot, 0))
        self.assertEqual(
            answers_by_ears(ears="a", face=0, lot=((0,),), book=CLOCKED), (("", ((0,),)), ("a", ((0, 1), (1,))))
        )
        self.assertEqual(answers_by_ears(CLOCKED, (), 0, "a"), ())
        self.assertEqual(answers_by_ears(CLOCKED, lot, 9, ""), (("", lot),))

    def test_against_all_choices(self):
        for ward in some_wards(60, 121):
            wheres = plain_wheres(ward.book)
            for lot, face, ears in itertools.product((tuple(wheres), (ward.book.first,), ()), range(3), EARS):
                lot = tuple(sorted(lot))
                found = answers_by_ears(ward.book, lot, face, ears)
                self.assertEqual(found, plain_answers(ward.book, lot, face, ears))
                for cut, _ in found:
                    self.assertEqual(plain_cut(cut, ears), cut)


class Safe(unittest.TestCase):
    def test_each_harm(self):
        within, away = ((0,), (0, 1)), ((0,),)
        self.assertEqual(safe_faces(HALL, THREE_FACES, within, ()), (0, 1, 2))
        self.assertEqual(safe_faces(HALL, THREE_FACES, within, ("shut",)), (0, 2))
        self.assertEqual(safe_faces(HALL, THREE_FACES, away, ("shut",)), (0, 1, 2))
        self.assertEqual(safe_faces(HALL, THREE_FACES, away, ("bell",)), (0, 1))
        self.assertEqual(safe_faces(HALL, THREE_FACES, within, ("bell", "open", "shut")), (0,))
        self.assertEqual(safe_faces(HALL, THREE_FACES, within, ("open",)), (0, 1, 2))

    def test_choices(self):
        within = ((1,),)
        self.assertEqual(safe_faces(HALL, THREE_FACES, within, ("shut",), choice=(1, 2)), (2,))
        self.assertEqual(safe_faces(HALL, THREE_FACES, within, ("shut",), choice=(1,)), ())
        named = safe_faces(choice=None, harms=("bell",), lot=within, faces=THREE_FACES, book=HALL)
        self.assertEqual(named, (0, 1))

    def test_the_empty_lot(self):
        for harms in ALL_HARMS:
            self.assertEqual(safe_faces(HALL, ((True, True), (False, True)), (), harms), (0, 1))
            self.assertIs(is_waiting(HALL, (), harms), False)

    def test_waiting(self):
        self.assertIs(is_waiting(HALL, ((0,), (1,)), ("open", "shut")), True)
        self.assertIs(is_waiting(HALL, ((0,), (1,)), ("bell", "shut")), False)
        self.assertIs(is_waiting(harms=("open",), lot=((0, 1), (1,)), book=HALL), False)

    def test_some_lots(self):
        for ward in some_wards(60, 122):
            wheres = plain_wheres(ward.book)
            lots = [(), (ward.book.first,), *[tuple(wheres[at : at + 2]) for at in range(len(wheres))]]
            for lot, harms in itertools.product(lots, ALL_HARMS):
                self.assertEqual(
                    safe_faces(ward.book, ward.faces, lot, harms), plain_safe(ward.book, ward.faces, lot, harms)
                )
                self.assertIs(is_waiting(ward.book, lot, harms), plain_waiting(ward.book, lot, harms))
                choice = tuple(range(len(ward.faces)))[-2:]
                found = safe_faces(ward.book, ward.faces, lot, harms, choice=choice)
                self.assertEqual(found, plain_safe(ward.book, ward.faces, lot, harms, choice))

    def test_faces_stay_as_they_are(self):
        self.assertEqual(FACES, ((False, False), (True, False)))


if __name__ == "__main__":
    unittest.main()

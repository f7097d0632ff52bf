"""Point [31], [34] for answers of cases, and visits.py."""

import itertools
import random
import unittest

from housewardens.books import Book
from housewardens.devices import Device
from housewardens.guests import Guest
from housewardens.logs import can_come
from housewardens.visits import (
    case_answers,
    cases_after,
    cases_behind,
    first_case,
    is_case,
    is_visit,
    sights_along,
    visit_log,
)
from housewardens.wards import Ward
from tests.helpers import HALL, HUGE, PLAIN, WARD, calls_leave_alone, plain_wheres, variants, wild_values
from tests.plain import DOOR
from tests.plain_guests import (
    BELLS,
    CALM,
    CATCHER,
    CAUGHT_WARD,
    LOUD_GUEST,
    NEVER_WITHIN,
    NO_MOVES,
    PASSER,
    SILENT_GUEST,
    THIEF,
    is_plain_case,
    plain_answers_of_cases,
    plain_visits,
    plain_way,
    some_guarded,
    some_guest,
)

FIRST = ((0,), 0, 0)
GUESTS = (THIEF, PASSER, LOUD_GUEST, SILENT_GUEST, NEVER_WITHIN, NO_MOVES)


def houses(many, seed):
    """Small wards and guests, and those of the examples."""
    rng = random.Random(seed)
    for guest in GUESTS:
        yield CAUGHT_WARD, guest
        yield WARD, guest
    for _ in range(many):
        yield some_guarded(rng)


class Cases(unittest.TestCase):
    def test_examples(self):
        self.assertEqual(first_case(CALM), FIRST)
        self.assertEqual(first_case(book=HALL), ((1,), 0, 0))
        right = (("", (FIRST,)), ("a", (FIRST, ((0,), 1, 1))))
        self.assertEqual(case_answers(CALM, THIEF, (FIRST,), 0), right)
        self.assertEqual(case_answers(face=0, cases=(FIRST,), guest=THIEF, book=CALM), right)
        self.assertEqual(cases_after(CALM, THIEF, (FIRST,), 0, "a"), right[1][1])
        self.assertEqual(cases_after(heard="c", face=0, cases=(FIRST,), guest=THIEF, book=CALM), ())

    def test_is_case(self):
        for book, guest in ((CALM, THIEF), (HALL, NO_MOVES), (HALL, NEVER_WITHIN)):
            for thing in [*wild_values(), *variants((book.first, 0, 0)), *variants(((0,), 1, 7)), ((0,), 1, HUGE)]:
                found = calls_leave_alone(self, lambda value: is_case(book, guest, value), thing)
                self.assertIs(found, is_plain_case(book, guest, thing), thing)
        # Whether or not it can come.
        self.assertIs(is_case(HALL, THIEF, ((0, 1, 2), 0, 5)), True)
        self.assertIs(is_case(HALL, THIEF, ((0, 1, 2), 1, 0)), True)
        self.assertIs(is_case(thing=((0, 3), 1, 0), guest=THIEF, book=HALL), False)
        self.assertIs(is_case(CALM, THIEF, ((0,), 2, 0)), False)
        self.assertIs(is_case(CALM, THIEF, ((0,), -1, 0)), False)
        self.assertIs(is_case(CALM, THIEF, ((0,), 0, -1)), False)
        self.assertIs(is_case(CALM, THIEF, ((), 0, 0)), False)
        self.assertIs(is_case(CALM, NO_MOVES, ((0,), 1, 0)), False)

    def test_answers_by_all_choices_and_moves(self):
        rng = random.Random(301)
        for ward, guest in houses(40, 302):
            rows = itertools.product(plain_wheres(ward.book), range(len(guest)), (0, 1, 3, HUGE))
            known = sorted(rows)
            for _ in range(3):
                cases = tuple(sorted(rng.sample(known, min(len(known), rng.randint(0, 4)))))
                for face in (0, 1, 2, 99, 100, HUGE):
                    right = plain_answers_of_cases(ward.book, guest, cases, face)
                    self.assertEqual(case_answers(ward.book, guest, cases, face), right)
                    for heard in ("", "a", "ab", "b", "c", "g", "z"):
                        after = dict(right).get(heard, ())
                        self.assertEqual(cases_after(ward.book, guest, cases, face, heard), after)

    def test_no_cases(self):
        self.assertEqual(case_answers(CALM, THIEF, (), 0), ())
        self.assertEqual(cases_after(CALM, THIEF, (), 0, ""), ())

    def test_faces_that_no_move_names(self):
        # All stay put, and whoever is in a room stays there, for one more tick.
        case = ((1, 2), 1, 4)
        self.assertEqual(case_answers(HALL, THIEF, (case,), 7), (("", (((1, 2), 1, 5),)),))
        self.assertEqual(case_answers(HALL, THIEF, (case,), 1234), (("", (((1, 2), 1, 5),)),))

    def test_ticks_count_where_a_tick_leads(self):
        self.assertEqual(cases_after(CALM, PASSER, (((0,), 1, 3),), 0, "b"), (((0,), 0, 3),))
        self.assertEqual(cases_after(CALM, PASSER, (((0,), 0, 3),), 0, ""), (((0,), 0, 3), ((0,), 1, 4)))
        self.assertEqual(cases_after(CALM, PASSER, (((0,), 1, 3),), 0, ""), ())

    def test_people_do_not_see_the_guest(self):
        # In the hall nobody leaves while somebody is seen in room 1: a guest there is not seen.
        guest = Guest((-1, 1), ((0, 1, "g", (0, 1)),))
        found = cases_after(HALL, guest, (((1,), 1, 1),), 0, "a")
        self.assertEqual(found, tuple((where, 1, 2) for where in ((0,), (0, 1), (0, 1, 2), (0, 2))))

    def test_cases_behind_logs(self):
        for ward, guest in houses(25, 303):
            for length in (0, 1, 2):
                rows = {}
                for _, log, sights in plain_visits(ward, guest, length):
                    rows.setdefault(log, set()).add(sights[-1][0])
                for log in itertools.product(("", "a", "ab", "b", "ag", "g", "c"), repeat=length):
                    found = cases_behind(ward, guest, log)
                    self.assertEqual(found, tuple(sorted(rows.get(log, ()))), log)
                    if can_come(ward, log):
                        self.assertIn(0, [case[2] for case in found])
        self.assertEqual(cases_behind(log=("a",), guest=THIEF, ward=CAUGHT_WARD), (FIRST, ((0,), 1, 1)))
        self.assertEqual(cases_behind(CAUGHT_WARD, THIEF, ("c",)), ())
        self.assertEqual(cases_behind(CAUGHT_WARD, THIEF, ("c", "a")), ())
        self.assertEqual(cases_behind(CAUGHT_WARD, THIEF, ("z",)), ())

    def test_logs_go_on_behind_the_bell(self):
        ward = Ward(CALM, BELLS, Device((1,), (), (0,)))
        self.assertEqual(cases_behind(ward, THIEF, ("a", "")), (FIRST, ((0,), 1, 2)))

    def test_long_logs(self):
        ward = Ward(CALM, BELLS, Device((0,), (), (0,)))
        rows = tuple(((0,), 1, many) for many in range(1, 61))
        self.assertEqual(cases_behind(ward, THIEF, ("a",) * 60), (FIRST, *rows))
        self.assertEqual(cases_behind(ward, THIEF, ("",) * 60), (FIRST,))


class Visits(unittest.TestCase):
    def test_examples(self):
        visit = (((1,), 0), ((0, 1), 1), ((0,), -1))
        self.assertIs(is_visit(CAUGHT_WARD, THIEF, visit), True)
        self.assertIs(is_visit(thing=visit, guest=THIEF, ward=CAUGHT_WARD), True)
        sights = (FIRST, 0), (((0,), 1, 1), 1), (((0,), 1, 2), 2), (((0,), 1, 3), 2)
        self.assertEqual(sights_along(CAUGHT_WARD, THIEF, visit), sights)
        self.assertEqual(sights_along(visit=visit, guest=THIEF, ward=CAUGHT_WARD), sights)
        self.assertEqual(visit_log(CAUGHT_WARD, THIEF, visit), ("a", "ac", ""))
        self.assertEqual(visit_log(visit=visit, guest=THIEF, ward=CAUGHT_WARD), ("a", "ac", ""))
        # By face 2 it has to be heard, by face 0 it has no move.
        self.assertIs(is_visit(CAUGHT_WARD, THIEF, (((1,), 0), ((0,), -1))), False)
        self.assertIs(is_visit(CAUGHT_WARD, THIEF, (((1,), -1), ((0,), 1))), False)

    def test_the_empty_visit(self):
        for ward, guest in houses(10, 304):
            self.assertIs(is_visit(ward, guest, ()), True)
            self.assertEqual(sights_along(ward, guest, ()), (((ward.book.first, 0, 0), 0),))
            self.assertEqual(visit_log(ward, guest, ()), ())

    def test_all_visits(self):
        for ward, guest in houses(25, 305):
            for length in (1, 2):
                for visit, log, sights in plain_visits(ward, guest, length)[::7]:
                    self.assertIs(is_visit(ward, guest, visit), True)
                    self.assertEqual(visit_log(ward, guest, visit), log)
                    self.assertEqual(sights_along(ward, guest, visit), sights)

    def test_any_value(self):
        for ward, guest in [(CAUGHT_WARD, THIEF), (WARD, PASSER), *houses(4, 306)]:
            rows = plain_visits(ward, guest, 2)
            for thing in [*wild_values(), *variants(rows[-1][0]), *variants(rows[len(rows) // 2][0])]:
                found = calls_leave_alone(self, lambda value: is_visit(ward, guest, value), thing)
                self.assertIs(found, plain_way(ward, guest, thing) is not None, thing)

    def test_moves_just_outside(self):
        for move in (-2, 2, 1, True, False, None, "0", (0,), HUGE):
            self.assertIs(is_visit(CAUGHT_WARD, THIEF, (((0,), move),)), False, move)
        for choice in ((), (2,), (-1,), (1, 0), (0, 0), [0], "0", 0, None, (True,), (False, 1), ((0,),)):
            self.assertIs(is_visit(CAUGHT_WARD, THIEF, ((choice, 0),)), False, choice)
        for made in (((0,),), ((0,), 0, 0), (0, (0,)), [(0,), 0], (), None, 0):
            self.assertIs(is_visit(CAUGHT_WARD, THIEF, (made,)), False, made)

    def test_nobody_has_an_open_move(self):
        ward = Ward(Book((0, -1), (), (0, 1)), ((False, False),), Device((0,), (), (0,)))
        self.assertIs(is_visit(ward, NO_MOVES, (((), -1), ((), -1))), True)
        self.assertEqual(visit_log(ward, NO_MOVES, (((), -1), ((), -1))), ("", ""))
        self.assertEqual(sights_along(ward, NO_MOVES, (((), -1),))[-1], (((0, 1), 0, 0), 0))

    def test_a_visit_goes_on_behind_the_bell(self):
        ward = Ward(DOOR, ((False, True), (False, True)), Device((1,), (), (0,)))
        visit = (((1,), -1), ((3,), 0))
        self.assertIs(is_visit(ward, Guest((-1, 9), ((0, 1, "g", (1,)),)), visit), True)

    def test_long_visits(self):
        visit = (((0, 1), -1),) * 40
        ward = Ward(CALM, BELLS, CATCHER)
        self.assertEqual(len(sights_along(ward, PASSER, visit)), 41)
        self.assertEqual(visit_log(ward, PASSER, visit), ("a",) * 40)
        self.assertIs(is_visit(ward, PASSER, visit * 100), True)
        self.assertIs(is_visit(ward, PASSER, visit * 100 + (((0, 1), 1),)), False)

    def test_guests_without_moves(self):
        rng = random.Random(307)
        for _ in range(10):
            ward, _ = some_guarded(rng)
            guest = Guest(some_guest(rng).rooms, ())
            for visit, _, sights in plain_visits(ward, guest, 2)[:20]:
                self.assertTrue(all(move == -1 for _, move in visit))
                self.assertIs(is_visit(ward, guest, visit), True)
                self.assertEqual({sight[0][1:] for sight in sights_along(ward, guest, visit)}, {(0, 0)})
        self.assertEqual(PLAIN, WARD.device)


if __name__ == "__main__":
    unittest.main()

"""Point [34], and catchers.py."""

import itertools
import random
import unittest

from housewardens.catchers import can_catch, catcher_of, guest_holds, judge_guest, least_catch
from housewardens.catching import does_catch, doubt_of
from housewardens.devices import Device
from housewardens.errors import TooMany, Uncaught
from housewardens.wards import Ward
from tests.helpers import HALL, HUGE, calls_leave_alone, error_of, plain_wheres, variants, wild_values
from tests.plain import told
from tests.plain_guests import (
    BELLS,
    CALM,
    CATCHER,
    LOUD_GUEST,
    NEVER_WITHIN,
    NO_MOVES,
    PASSER,
    SILENT_GUEST,
    THIEF,
    is_plain_guest,
    plain_answers_of_cases,
    plain_can_catch,
    plain_catches,
    plain_lots_of_cases,
    plain_rows_of,
    some_guarded,
)
from tests.test_alike import all_devices
from tests.test_visits import GUESTS

FIRST = (((0,), 0, 0),)
QUIET_BELLS = BELLS[:2]
UNHEARD = ("unheard", ((FIRST, 1), ((((0,), 0, 0), ((0,), 1, 1)), 0)))


def cases(many, seed, most=60):
    """Books, faces and guests for which few lots are met."""
    rng = random.Random(seed)
    for guest, faces in itertools.product(GUESTS, (BELLS, QUIET_BELLS, BELLS[:1], BELLS[1:2])):
        yield CALM, faces, guest
    for guest in GUESTS:
        yield HALL, QUIET_BELLS, guest
    for _ in range(many):
        ward, guest = some_guarded(rng)
        if plain_lots_of_cases(ward.book, ward.faces, guest, 3, most) is not None:
            yield ward.book, ward.faces, guest


class Catchers(unittest.TestCase):
    def test_examples(self):
        self.assertEqual(least_catch(CALM, BELLS, THIEF, 6), 2)
        self.assertEqual(least_catch(ticks=2, guest=THIEF, faces=BELLS, book=CALM, most=60), 2)
        self.assertIs(can_catch(CALM, BELLS, THIEF, 1), False)
        self.assertIs(can_catch(ticks=2, guest=THIEF, faces=BELLS, book=CALM), True)
        self.assertIs(guest_holds(CALM, BELLS, THIEF, 1, UNHEARD), True)
        self.assertIs(guest_holds(thing=UNHEARD, ticks=1, guest=THIEF, faces=BELLS, book=CALM), True)
        self.assertEqual(judge_guest(CALM, BELLS, THIEF, 1), UNHEARD)
        self.assertIsNone(least_catch(CALM, BELLS, THIEF, 1))

    def test_without_the_face_by_which_the_thief_is_heard(self):
        # Each row of ticks in which something was heard is a lot: 64 of them up to the number 6.
        self.assertIsNone(least_catch(CALM, QUIET_BELLS, THIEF, 5))
        self.assertIsNone(least_catch(CALM, QUIET_BELLS, THIEF, 6, most=64))
        self.assertEqual(error_of(least_catch, CALM, QUIET_BELLS, THIEF, 6, most=63).most, 63)

    def test_guests(self):
        self.assertEqual(least_catch(CALM, QUIET_BELLS, LOUD_GUEST, 6), 1)
        # It comes in unheard, and is heard as it goes: then it was within for one tick alone.
        self.assertEqual(least_catch(CALM, QUIET_BELLS, PASSER, 6), 2)
        self.assertIsNone(least_catch(CALM, QUIET_BELLS, SILENT_GUEST, 5))
        for guest in (NEVER_WITHIN, NO_MOVES):
            self.assertEqual(least_catch(CALM, QUIET_BELLS, guest, 6), 1)
            self.assertIsNone(least_catch(CALM, BELLS[1:2], guest, 6))
            self.assertEqual(least_catch(CALM, BELLS[:1], guest, 6), 1)
        # Nothing rings at all: so nobody who can come in is caught.
        for guest in (THIEF, LOUD_GUEST, PASSER, SILENT_GUEST):
            self.assertIs(can_catch(CALM, BELLS[:1], guest, 3), False)

    def test_against_lots_taken_out(self):
        found = {True: 0, False: 0}
        for book, faces, guest in cases(150, 321):
            rights = []
            for ticks in (1, 2, 3):
                right = plain_can_catch(book, faces, guest, ticks)
                self.assertIs(can_catch(book, faces, guest, ticks), right)
                paper = judge_guest(book, faces, guest, ticks)
                self.assertEqual(paper[0], "caught" if right else "unheard")
                self.assertIs(is_plain_guest(book, faces, guest, ticks, paper), True)
                self.assertIs(guest_holds(book, faces, guest, ticks, paper), True)
                self.assertEqual(told(paper), told(judge_guest(book, faces, guest, ticks, most=60)))
                rights.append(right)
                found[right] += 1
            self.assertEqual(rights, sorted(rights))
            right = rights.index(True) + 1 if True in rights else None
            self.assertEqual(least_catch(book, faces, guest, 3), right)
        self.assertGreater(min(found.values()), 60)

    def test_the_device_catches(self):
        for book, faces, guest in cases(100, 322):
            for ticks in (1, 2, 3):
                if can_catch(book, faces, guest, ticks):
                    device = catcher_of(ticks=ticks, guest=guest, faces=faces, book=book, most=60)
                    self.assertIs(type(device), Device)
                    ward = Ward(book, faces, device)
                    self.assertIs(does_catch(ward, guest, ticks, most=HUGE), True)
                    self.assertIs(plain_catches(ward, guest, ticks), True)
                    self.assertIsNone(doubt_of(ward, guest, ticks, most=HUGE))
                    continue
                error = error_of(catcher_of, book, faces, guest, ticks)
                self.assertIs(type(error), Uncaught)
                self.assertIs(guest_holds(book, faces, guest, ticks, error.paper), True)
                self.assertEqual(error.paper[0], "unheard")

    def test_no_small_device_catches_what_is_unheard(self):
        for guest, faces, ticks in ((THIEF, BELLS, 1), (SILENT_GUEST, QUIET_BELLS, 3), (THIEF, QUIET_BELLS, 2)):
            self.assertIs(can_catch(CALM, faces, guest, ticks), False)
            for states in (1, 2):
                for device in all_devices(states, ("", "a"), len(faces)):
                    self.assertIs(does_catch(Ward(CALM, faces, device), guest, ticks), False)

    def test_all_small_devices(self):
        for book, faces, guest in cases(12, 323):
            for ticks in (1, 2):
                right = can_catch(book, faces, guest, ticks)
                if not right:
                    for device in itertools.islice(all_devices(2, ("a", "b"), len(faces)), 0, None, 7):
                        self.assertIs(plain_catches(Ward(book, faces, device), guest, ticks), False)

    def test_too_many(self):
        for book, faces, guest in cases(60, 324):
            for ticks in (1, 2, 3):
                many = len(plain_lots_of_cases(book, faces, guest, ticks))
                can_catch(book, faces, guest, ticks, most=many)
                for call in (can_catch, judge_guest, catcher_of):
                    for most in {many - 1, 0}:
                        error = error_of(call, book, faces, guest, ticks, most=most)
                        self.assertIs(type(error), TooMany)
                        self.assertEqual(error.most, most)

    def test_too_many_of_the_least_number(self):
        for book, faces, guest in cases(60, 325):
            rows = []
            for ticks in (1, 2, 3):
                rows.append(len(plain_lots_of_cases(book, faces, guest, ticks)))
                if plain_can_catch(book, faces, guest, ticks):
                    break
            least_catch(book, faces, guest, 3, most=max(rows))
            for most in {max(rows) - 1, 0}:
                error = error_of(least_catch, book, faces, guest, 3, most=most)
                self.assertIs(type(error), TooMany)
                self.assertEqual(error.most, most)

    def test_lots_behind_a_bell_that_is_let_are_not_met_by_it(self):
        # The guest is heard as it comes in: the bell is let then, but the face that does not ring is let, too.
        self.assertEqual(len(plain_lots_of_cases(CALM, QUIET_BELLS, LOUD_GUEST, 3)), 4)
        self.assertIs(can_catch(CALM, QUIET_BELLS, LOUD_GUEST, 3, most=4), True)
        self.assertIs(type(error_of(can_catch, CALM, QUIET_BELLS, LOUD_GUEST, 3, most=3)), TooMany)
        self.assertIs(can_catch(CALM, BELLS[1:2], THIEF, 3, most=1), False)

    def test_most_is_passed_by_name(self):
        for call in (can_catch, judge_guest, catcher_of, least_catch):
            self.assertIs(type(error_of(call, CALM, BELLS, THIEF, 1, 60)), TypeError)


class Papers(unittest.TestCase):
    def check(self, book, faces, guest, ticks, thing):
        found = guest_holds(book, faces, guest, ticks, thing)
        self.assertIs(found, is_plain_guest(book, faces, guest, ticks, thing), thing)
        return found

    def rows_with(self, device, faces, guest, rows):
        """Some rows of a device with all that have to be there, too."""
        known, fresh = set(), set(rows)
        while fresh:
            known |= fresh
            quiet = [(lot, state) for lot, state in fresh if not faces[device.shown[state]][1]]
            fresh = {
                (target, device.led(state, heard))
                for lot, state in quiet
                for heard, target in plain_answers_of_cases(CALM, guest, lot, device.shown[state])
            } - known
        return tuple(sorted(known))

    def test_devices_of_other_hands(self):
        rows = self.rows_with(CATCHER, BELLS, THIEF, [(FIRST, 0)])
        self.assertIs(self.check(CALM, BELLS, THIEF, 2, ("caught", CATCHER, rows)), True)
        self.assertIs(self.check(CALM, BELLS, THIEF, 3, ("caught", CATCHER, rows)), True)
        self.assertIs(self.check(CALM, BELLS, THIEF, 1, ("caught", CATCHER, rows)), False)
        self.assertIs(self.check(CALM, QUIET_BELLS, THIEF, 2, ("caught", CATCHER, rows)), False)
        # Rows of lots that are never met, and of states of no use, behind a bell nothing more.
        more = (((0,), 1, 1),)
        rows = tuple(sorted({*rows, (more, 2), ((((0,), 0, 7), ((0,), 1, 9)), 2)}))
        self.assertIs(self.check(CALM, BELLS, THIEF, 2, ("caught", CATCHER, rows)), True)
        self.assertIs(self.check(CALM, BELLS, THIEF, 2, ("caught", CATCHER, rows + ((more, 3),))), False)
        wide = tuple(sorted({*rows, (FIRST, 2)}))
        self.assertIs(self.check(CALM, BELLS, THIEF, 2, ("caught", CATCHER, wide)), False)
        idle = Device((*CATCHER.shown, 0), (*CATCHER.steps, (3, "", 1)), (*CATCHER.others, 3))
        self.assertIs(self.check(CALM, BELLS, THIEF, 2, ("caught", idle, rows)), True)
        strange = Device((*CATCHER.shown, 3), CATCHER.steps, (*CATCHER.others, 3))
        self.assertIs(self.check(CALM, BELLS, THIEF, 2, ("caught", strange, rows)), False)
        for device in (None, str(CATCHER), THIEF, (CATCHER,), CALM):
            self.assertIs(self.check(CALM, BELLS, THIEF, 2, ("caught", device, rows)), False)

    def test_refusals_of_other_hands(self):
        second = UNHEARD[1][1][0]
        for numbers, right in (((5, 2), True), ((1, 1), False), ((0, 1), False), ((HUGE, HUGE - 1), True)):
            thing = ("unheard", ((FIRST, numbers[0]), (second, numbers[1])))
            self.assertIs(self.check(CALM, BELLS, THIEF, 1, thing), right)
        # A lot that never comes, in which it is too late and too early at once.
        odd = (((0,), 0, 0), ((0,), 1, 77))
        self.assertIs(self.check(CALM, BELLS, THIEF, 1, ("unheard", (*UNHEARD[1], (odd, 0)))), True)
        self.assertIs(self.check(CALM, BELLS, THIEF, 1, ("unheard", (*UNHEARD[1], (odd, 0), (odd, 1)))), False)
        # A lot in which the bell is let is never refused.
        for lot in ((((0,), 1, 1),), (((0,), 0, 3), ((0,), 1, 4))):
            rows = tuple(sorted({*UNHEARD[1], (lot, 9)}))
            self.assertIs(self.check(CALM, BELLS, THIEF, 1, ("unheard", rows)), False)
            self.assertIs(self.check(CALM, BELLS[::2], THIEF, 1, ("unheard", rows)), True)
        self.assertIs(self.check(CALM, BELLS, THIEF, 1, ("unheard", UNHEARD[1][1:])), False)
        self.assertIs(self.check(CALM, BELLS, THIEF, 1, ("unheard", UNHEARD[1][:1])), False)
        self.assertIs(self.check(CALM, BELLS, THIEF, 2, UNHEARD), False)

    def test_random_refusals(self):
        rng = random.Random(326)
        found = [0, 0]
        for book, faces, guest in cases(60, 327):
            for ticks in (1, 2):
                paper = judge_guest(book, faces, guest, ticks)
                rows = paper[-1]
                places = itertools.product(plain_wheres(book), range(len(guest.rooms)), range(ticks + 1))
                known = sorted(places)
                for _ in range(4):
                    more = [tuple(sorted(rng.sample(known, min(2, len(known))))) for _ in range(2)]
                    new = {(lot, rng.randint(0, 3)) for lot in more} | set(rows)
                    self.check(book, faces, guest, ticks, (*paper[:-1], tuple(sorted(new))))
                    scale = rng.choice((1, 2, HUGE))
                    thing = (*paper[:-1], tuple((lot, number * scale) for lot, number in rows))
                    found[self.check(book, faces, guest, ticks, thing)] += 1
                    drop = rng.randrange(len(rows))
                    self.check(book, faces, guest, ticks, (*paper[:-1], rows[:drop] + rows[drop + 1 :]))
                    self.check(book, faces, guest, ticks, (*paper[:-1], rows[:drop] + rows[drop:] + rows[drop : drop + 1]))
        self.assertGreater(min(found), 20)

    def test_greater_numbers_of_unlike_rows(self):
        # In a lot whose only answers lead to itself nothing falls.
        book = CALM
        self.assertEqual(plain_rows_of(book, BELLS[:1], NO_MOVES, 1, FIRST), [[FIRST, FIRST]])
        self.assertIs(self.check(book, BELLS[:1], NO_MOVES, 1, ("unheard", ((FIRST, 4),))), False)
        self.assertIs(self.check(book, BELLS[1:2], NO_MOVES, 1, ("unheard", ((FIRST, 4),))), True)

    def test_any_value(self):
        parts = [None, True, False, 0, 1, -1, "", "caught", (), [], (0,), ((0,), 0, 0), FIRST, CATCHER]
        for faces, guest, ticks in ((BELLS, THIEF, 1), (BELLS, LOUD_GUEST, 1), (BELLS, NO_MOVES, 1)):
            paper = judge_guest(CALM, faces, guest, ticks)
            for thing in [*wild_values(), *variants(paper, parts)]:
                found = calls_leave_alone(self, lambda value: guest_holds(CALM, faces, guest, ticks, value), thing)
                self.assertIs(found, is_plain_guest(CALM, faces, guest, ticks, thing), thing)

    def test_lots_that_are_none_in_rows_that_are_right(self):
        rows = self.rows_with(CATCHER, BELLS, THIEF, [(FIRST, 0)])
        inside, later = ((0,), 1, 1), ((0,), 1, 2)
        for lot, right in (((inside,), True), ((inside, later), True), ((), False), ((later, inside), False),
                           ((inside, inside), False), ((inside, ((1,), 1, 1)), False), ((inside, ((0,), 2, 1)), False)):  # fmt: skip
            thing = ("caught", CATCHER, tuple(sorted({*rows, (lot, 2)})))
            self.assertIs(self.check(CALM, BELLS, THIEF, 2, thing), right, lot)
        away, odd = ((0,), 0, 0), ((0,), 1, 7)
        for lot, right in (((away, odd), True), ((), False), ((odd, away), False), ((away, away, odd), False)):
            thing = ("unheard", tuple(sorted({*UNHEARD[1], (lot, 0)})))
            self.assertIs(self.check(CALM, BELLS, THIEF, 1, thing), right, lot)

    def test_rows_just_outside(self):
        paper = judge_guest(CALM, BELLS, NO_MOVES, 1)
        device = paper[1]
        for row in ((FIRST, -1), (FIRST, len(device)), (FIRST, False), ((), 0), (FIRST[0], 0), (FIRST, 0, 0), (FIRST,)):
            self.assertIs(guest_holds(CALM, BELLS, NO_MOVES, 1, ("caught", device, (row,))), False)
            self.assertIs(guest_holds(CALM, BELLS[1:2], NO_MOVES, 1, ("unheard", (row,))), row == (FIRST, len(device)))
        self.assertIs(guest_holds(CALM, BELLS, NO_MOVES, 1, ("caught", device, ())), False)
        self.assertIs(guest_holds(CALM, BELLS[1:2], NO_MOVES, 1, ("unheard", ())), False)


if __name__ == "__main__":
    unittest.main()

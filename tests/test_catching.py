"""Points [32] and [33], and catching.py."""

import itertools
import random
import unittest

from housewardens.catching import catching_holds, does_catch, doubt_holds, doubt_of, judge_catching, least_ticks
from housewardens.devices import Device
from housewardens.errors import TooMany
from housewardens.wards import Ward
from tests.helpers import HUGE, WARD, calls_leave_alone, error_of, exact, variants, wild_values
from tests.plain_guests import (
    BELLS,
    CALM,
    CATCHER,
    CAUGHT_WARD,
    LOUD_GUEST,
    NEVER_WITHIN,
    NO_MOVES,
    PASSER,
    SILENT_GUEST,
    THIEF,
    all_sights,
    closed_sights,
    is_fault,
    is_plain_catching,
    is_plain_doubt,
    plain_catches,
    plain_clipped_lots,
    plain_sights_met,
    plain_visits,
)
from tests.test_visits import GUESTS, houses

DEAF_WARD = Ward(CALM, BELLS, Device((0,), (), (0,)))
LOUD_WARD = Ward(CALM, BELLS, Device((1,), (), (0,)))
START = (((0,), 0, 0), 0)


class Catching(unittest.TestCase):
    def test_examples(self):
        self.assertIs(does_catch(CAUGHT_WARD, THIEF, 2), True)
        self.assertIs(does_catch(ticks=1, guest=THIEF, ward=CAUGHT_WARD), False)
        self.assertEqual(least_ticks(CAUGHT_WARD, THIEF, 6), 2)
        self.assertEqual(least_ticks(ticks=2, guest=THIEF, ward=CAUGHT_WARD, most=300), 2)
        self.assertIsNone(least_ticks(CAUGHT_WARD, THIEF, 1))
        self.assertEqual(judge_catching(CAUGHT_WARD, THIEF, 2)[0], "catches")
        self.assertEqual(judge_catching(CAUGHT_WARD, THIEF, 1)[0], "late")

    def test_a_first_face_that_rings(self):
        for guest in GUESTS:
            self.assertIs(does_catch(LOUD_WARD, guest, 6), False)
            self.assertIsNone(least_ticks(LOUD_WARD, guest, 6))
            self.assertEqual(judge_catching(LOUD_WARD, guest, 3), ("early", ()))
            self.assertIs(catching_holds(LOUD_WARD, guest, 3, ("early", ())), True)
            self.assertIs(catching_holds(LOUD_WARD, guest, 3, ("catches", (START,))), False)
            self.assertIsNone(doubt_of(LOUD_WARD, guest, 1))
            self.assertIs(doubt_holds(LOUD_WARD, guest, 1, ((), ())), False)

    def test_guests_who_are_never_within(self):
        for guest in (NEVER_WITHIN, NO_MOVES):
            self.assertIs(does_catch(DEAF_WARD, guest, 1), True)
            self.assertEqual(least_ticks(DEAF_WARD, guest, 6), 1)
            self.assertEqual(judge_catching(DEAF_WARD, guest, 6)[0], "catches")

    def test_a_guest_who_goes_again_has_come(self):
        # Whoever rings when b is heard rings when the guest has gone: that is right, and in time.
        ward = Ward(CALM, BELLS, Device((0, 1), ((0, "ab", 1), (0, "b", 1)), (0, 1)))
        self.assertEqual(least_ticks(ward, PASSER, 6), 2)
        self.assertIs(does_catch(ward, PASSER, 2), True)
        self.assertIs(does_catch(ward, PASSER, 1), False)

    def test_ticks_that_never_rise_further(self):
        # It was in a room for one tick and goes about away: the device need not ring for two ticks.
        self.assertIs(does_catch(DEAF_WARD, PASSER, 2), False)
        guest = NEVER_WITHIN.__class__((-1, 0, -1), ((0, 1, "", (0,)), (1, 2, "", (0,)), (2, 2, "", (0,))))
        self.assertEqual(least_ticks(DEAF_WARD, guest, 6), 2)
        self.assertIs(does_catch(DEAF_WARD, guest, 1), False)

    def test_against_the_sights(self):
        found = {"catches": 0, "early": 0, "late": 0}
        for ward, guest in houses(120, 311):
            rights = []
            for ticks in (1, 2, 3, 6):
                right = plain_catches(ward, guest, ticks)
                self.assertIs(does_catch(ward, guest, ticks), right)
                paper = judge_catching(ward, guest, ticks)
                self.assertEqual(paper, judge_catching(ticks=ticks, guest=guest, ward=ward, most=300))
                self.assertEqual(paper[0] == "catches", right)
                self.assertIs(is_plain_catching(ward, guest, ticks, paper), True)
                self.assertIs(catching_holds(ward, guest, ticks, paper), True)
                found[paper[0]] += 1
                rights.append(right)
            self.assertEqual(rights, sorted(rights))
            for greatest in (1, 2, 6):
                rows = [ticks for ticks in range(1, greatest + 1) if plain_catches(ward, guest, ticks)]
                self.assertEqual(least_ticks(ward, guest, greatest), rows[0] if rows else None)
        self.assertGreater(min(found.values()), 30)

    def test_against_all_visits(self):
        for ward, guest in houses(25, 312):
            for ticks in (1, 2):
                if does_catch(ward, guest, ticks):
                    for length in range(4):
                        for _, _, sights in plain_visits(ward, guest, length)[:3000]:
                            rings = [ward.faces[ward.device.shown[state]][1] for _, state in sights]
                            end = rings.index(True) if True in rings else length
                            self.assertFalse(any(is_fault(ward, ticks, sight) for sight in sights[: end + 1]))
                else:
                    visit = judge_catching(ward, guest, ticks)[1]
                    if len(visit) <= 3:
                        self.assertIn(visit, [row[0] for row in plain_visits(ward, guest, len(visit))])

    def test_too_many(self):
        for ward, guest in houses(40, 313):
            for ticks in (1, 2, 6):
                many = len(plain_sights_met(ward, guest, ticks))
                for call in (does_catch, judge_catching, least_ticks):
                    call(ward, guest, ticks, most=many)
                    for most in {many - 1, 0}:
                        error = error_of(call, ward, guest, ticks, most=most)
                        self.assertIs(type(error), TooMany)
                        self.assertEqual(error.most, most)

    def test_too_many_ahead_of_a_bell(self):
        # The first face rings: just one sight is met.
        self.assertIs(does_catch(LOUD_WARD, THIEF, 1, most=1), False)
        self.assertIs(type(error_of(does_catch, LOUD_WARD, THIEF, 1, most=0)), TooMany)
        self.assertIs(type(error_of(judge_catching, DEAF_WARD, THIEF, 1, most=1)), TooMany)
        self.assertIs(type(error_of(least_ticks, CAUGHT_WARD, THIEF, 2, most=3)), TooMany)

    def test_most_is_passed_by_name(self):
        for call in (does_catch, judge_catching, least_ticks, doubt_of):
            self.assertIs(type(error_of(call, CAUGHT_WARD, THIEF, 1, 300)), TypeError)


class Papers(unittest.TestCase):
    def check(self, ward, guest, ticks, thing):
        found = catching_holds(ward, guest, ticks, thing)
        self.assertIs(found, is_plain_catching(ward, guest, ticks, thing), thing)
        return found

    def test_sights_that_are_never_met(self):
        rng = random.Random(314)
        found = [0, 0]
        for ward, guest in houses(40, 315):
            for ticks in (1, 2, 4):
                sights = all_sights(ward, guest, ticks + 1)
                for _ in range(3):
                    more = rng.sample(sights, min(len(sights), 2))
                    closed = closed_sights(ward, guest, ticks, [((ward.book.first, 0, 0), 0), *more])
                    found[self.check(ward, guest, ticks, ("catches", tuple(sorted(closed))))] += 1
                    self.check(ward, guest, ticks, ("catches", tuple(sorted(closed | set(more)))))
        self.assertGreater(min(found), 20)

    def test_what_may_follow_behind_the_bell_need_not_be_there(self):
        paper = judge_catching(CAUGHT_WARD, THIEF, 2)
        ringing = [sight for sight in paper[1] if sight[1] == 2]
        self.assertTrue(ringing)
        more = tuple(sorted({*paper[1], (((0,), 0, 5), 2), (((0,), 1, HUGE), 2)}))
        self.assertIs(self.check(CAUGHT_WARD, THIEF, 2, ("catches", more)), True)
        self.assertIs(self.check(CAUGHT_WARD, THIEF, 2, ("catches", tuple(sorted({*more, (((0,), 1, 0), 2)})))), False)
        # What a lesser number holds holds for a greater one only if all that is asked is there.
        for ticks in (1, 3, 6):
            self.check(CAUGHT_WARD, THIEF, ticks, paper)

    def test_longer_visits(self):
        visit = (((0,), -1),) * 7 + (((1,), 0), ((0,), 1))
        for ward in (DEAF_WARD, CAUGHT_WARD, LOUD_WARD):
            for ticks in (1, 2):
                for length in range(10):
                    for word in ("late", "early", "catches"):
                        self.check(ward, THIEF, ticks, (word, visit[:length]))
        self.assertIs(catching_holds(CAUGHT_WARD, THIEF, 1, ("late", visit[:8])), True)
        self.assertIs(catching_holds(CAUGHT_WARD, THIEF, 1, ("late", visit)), False)
        self.assertIs(catching_holds(CAUGHT_WARD, THIEF, 2, ("late", visit[:8])), False)
        self.assertIs(catching_holds(thing=("late", (((1,), 0),)), ticks=1, guest=THIEF, ward=CAUGHT_WARD), True)

    def test_early_visits(self):
        early = Ward(CALM, BELLS, Device((0, 1, 0), ((0, "a", 1),), (0, 2, 2)))
        visit = (((0,), -1), ((1,), -1))
        self.assertIs(is_plain_catching(early, THIEF, 6, judge_catching(early, THIEF, 6)), True)
        self.assertEqual(judge_catching(early, THIEF, 6)[0], "early")
        self.assertIs(catching_holds(early, THIEF, 6, ("early", visit)), True)
        self.assertIs(catching_holds(early, THIEF, 6, ("early", visit + (((0,), -1),))), False)
        self.assertIs(catching_holds(early, THIEF, 6, ("early", (((1,), 0),))), False)
        self.assertIs(catching_holds(early, THIEF, 6, ("late", visit)), False)
        # Behind a bell nothing is shown any more: a later bell is no paper.
        again = Ward(CALM, BELLS, Device((0, 1), ((0, "a", 1),), (0, 1)))
        self.assertIs(catching_holds(again, THIEF, 6, ("early", visit)), True)
        self.assertIs(catching_holds(again, THIEF, 6, ("early", visit[1:] + visit)), False)

    def test_parts_of_papers(self):
        for ward, guest in [(CAUGHT_WARD, THIEF), (DEAF_WARD, THIEF), *houses(12, 316)]:
            for ticks in (1, 2):
                word, rows = judge_catching(ward, guest, ticks)
                for other in ("catches", "early", "late", "kept", None):
                    self.check(ward, guest, ticks, (other, rows))
                for at in range(len(rows)):
                    self.check(ward, guest, ticks, (word, rows[:at] + rows[at + 1 :]))
                    self.check(ward, guest, ticks, (word, rows[:at] + rows[at:] + rows[at : at + 1]))
                    self.check(ward, guest, ticks, (word, rows[: at + 1] + rows[at:]))
                self.check(ward, guest, ticks, (word, rows[::-1]))
                self.check(ward, guest, ticks, (word, rows, ()))

    def test_any_value(self):
        parts = [None, True, False, 0, 1, -1, "", "a", (), [], (0,), ((0,), 0, 0), START]
        early = Ward(CALM, BELLS, Device((0, 1), ((0, "a", 1),), (0, 1)))
        for ward, ticks in ((CAUGHT_WARD, 2), (CAUGHT_WARD, 1), (early, 2)):
            paper = judge_catching(ward, THIEF, ticks)
            for thing in [*wild_values(), *variants(paper, parts)]:
                found = calls_leave_alone(self, lambda value: catching_holds(ward, THIEF, ticks, value), thing)
                self.assertIs(found, is_plain_catching(ward, THIEF, ticks, thing), thing)

    def test_states_just_outside(self):
        ward = Ward(CALM, BELLS, Device((0,), (), (0,)))
        paper = judge_catching(ward, NO_MOVES, 1)
        self.assertEqual(paper, ("catches", (START,)))
        for state in (-1, 1, True, False, None):
            thing = ("catches", tuple(sorted([START], key=str)) + (((((0,), 0, 0)), state),))
            self.assertIs(catching_holds(ward, NO_MOVES, 1, thing), False)
            self.assertIs(catching_holds(ward, NO_MOVES, 1, ("catches", ((((0,), 0, 0), state),))), False)
        self.assertIs(catching_holds(ward, NO_MOVES, 1, ("catches", ())), False)
        # The last state of the catcher rings, so that nothing is asked of the sights behind it.
        rows = judge_catching(CAUGHT_WARD, THIEF, 2)[1]
        for state, right in ((2, True), (-1, False), (3, False), (2.0, False)):
            thing = ("catches", tuple(sorted({*rows, (((0,), 1, 9), state)})))
            self.assertIs(catching_holds(CAUGHT_WARD, THIEF, 2, thing), right, state)


class Doubts(unittest.TestCase):
    def check(self, ward, guest, ticks, thing):
        found = doubt_holds(ward, guest, ticks, thing)
        self.assertIs(found, is_plain_doubt(ward, guest, ticks, thing), thing)
        return found

    def test_examples(self):
        calm, thief = (((1,), -1),), (((1,), 0),)
        self.assertIs(doubt_holds(DEAF_WARD, THIEF, 1, (calm, thief)), True)
        self.assertIs(doubt_holds(thing=(thief, calm), ticks=1, guest=THIEF, ward=DEAF_WARD), False)
        self.assertIs(doubt_holds(DEAF_WARD, THIEF, 2, (calm, thief)), False)
        self.assertIs(doubt_holds(DEAF_WARD, THIEF, 1, (calm, calm)), False)
        self.assertIs(doubt_holds(DEAF_WARD, THIEF, 1, (calm + (((0,), -1),), thief + (((0,), -1),))), True)
        self.assertIs(doubt_holds(DEAF_WARD, THIEF, 1, (calm + (((1,), -1),), thief + (((0,), -1),))), False)
        self.assertIs(doubt_holds(DEAF_WARD, THIEF, 1, (calm, thief + (((0,), -1),))), False)
        self.assertIs(is_plain_doubt(DEAF_WARD, THIEF, 1, doubt_of(DEAF_WARD, THIEF, 1)), True)
        self.assertIsNone(doubt_of(ticks=2, guest=THIEF, ward=CAUGHT_WARD, most=60))
        self.assertIsNone(doubt_of(DEAF_WARD, LOUD_GUEST, 1))
        self.assertIsNotNone(doubt_of(DEAF_WARD, SILENT_GUEST, 6))

    def test_a_doubt_is_no_lateness(self):
        # Here nobody is in doubt: but the device is late as it never rings.
        self.assertIs(does_catch(DEAF_WARD, LOUD_GUEST, 6), False)
        self.assertIsNone(doubt_of(DEAF_WARD, LOUD_GUEST, 6))

    def test_against_all_pairs_of_visits(self):
        found = {True: 0, False: 0}
        for ward, guest in houses(80, 317):
            for ticks in (1, 2):
                doubt = doubt_of(ward, guest, ticks, most=HUGE)
                self.assertEqual(exact(doubt), exact(doubt_of(ward, guest, ticks, most=HUGE)))
                found[doubt is None] += 1
                if doubt is not None:
                    self.assertIs(type(doubt), tuple)
                    self.assertIs(self.check(ward, guest, ticks, doubt), True)
                    self.check(ward, guest, ticks + 1, doubt)
                    self.assertIs(self.check(ward, guest, ticks, doubt[::-1]), False)
                    continue
                for length in (0, 1, 2):
                    rows = {}
                    for visit, log, sights in plain_visits(ward, guest, length):
                        if not any(ward.faces[ward.device.shown[state]][1] for _, state in sights):
                            rows.setdefault(log, set()).add(sights[-1][0][2])
                    self.assertFalse(any(0 in numbers and max(numbers) >= ticks for numbers in rows.values()))
        self.assertGreater(min(found.values()), 30)

    def test_no_doubt_is_missed(self):
        for ward, guest in houses(60, 318):
            for ticks in (1, 2, 3, 6):
                right = False
                for cases, state in plain_clipped_lots(ward, guest, ticks):
                    numbers = [case[2] for case in cases]
                    rings = ward.faces[ward.device.shown[state]][1]
                    right = right or (not rings and 0 in numbers and max(numbers) >= ticks)
                self.assertIs(doubt_of(ward, guest, ticks, most=HUGE) is not None, right)

    def test_too_many(self):
        for ward, guest in houses(60, 319):
            for ticks in (1, 2, 6):
                many = len({cases for cases, _ in plain_clipped_lots(ward, guest, ticks)})
                doubt_of(ward, guest, ticks, most=many)
                for most in {many - 1, 0}:
                    error = error_of(doubt_of, ward, guest, ticks, most=most)
                    self.assertIs(type(error), TooMany)
                    self.assertEqual(error.most, most)

    def test_one_lot_in_many_states_counts_once(self):
        # A device that counts shows face 0 for ever; there is one lot alone, and no doubt.
        many = 50
        ward = Ward(CALM, BELLS, Device((0,) * many, (), tuple(range(1, many)) + (many - 1,)))
        self.assertIsNone(doubt_of(ward, NO_MOVES, 1, most=1))
        self.assertIs(type(error_of(doubt_of, ward, NO_MOVES, 1, most=0)), TooMany)

    def test_the_lot_behind_which_the_bell_rings_counts(self):
        ward = Ward(CALM, BELLS, Device((0, 1), (), (1, 1)))
        self.assertIsNone(doubt_of(ward, THIEF, 1, most=2))
        self.assertIs(type(error_of(doubt_of, ward, THIEF, 1, most=1)), TooMany)

    def test_any_value(self):
        for ward, ticks in ((DEAF_WARD, 1), (DEAF_WARD, 2), (CAUGHT_WARD, 1)):
            doubt = doubt_of(ward, THIEF, ticks)
            for thing in [*wild_values(), *variants(doubt), doubt + doubt[:1], list(doubt)]:
                found = calls_leave_alone(self, lambda value: doubt_holds(ward, THIEF, ticks, value), thing)
                self.assertIs(found, is_plain_doubt(ward, THIEF, ticks, thing), thing)

    def test_another_doubt(self):
        rows = plain_visits(DEAF_WARD, THIEF, 3)
        found = [0, 0]
        for (visit, *_), (other, *_) in itertools.islice(itertools.product(rows[::3], rows[::5]), 9000):
            for ticks in (1, 3):
                found[self.check(DEAF_WARD, THIEF, ticks, (visit, other))] += 1
        self.assertGreater(min(found), 20)

    def test_a_bell_in_either_visit(self):
        ward = Ward(CALM, BELLS, Device((0, 0, 1, 0), ((0, "a", 1), (1, "a", 2)), (0, 1, 3, 3)))
        calm = (((1,), -1), ((1,), -1), ((0,), -1))
        thief = (((1,), 0), ((1,), -1), ((0,), -1))
        for length in range(4):
            right = length == 1
            self.assertIs(self.check(ward, THIEF, 1, (calm[:length], thief[:length])), right)

    def test_the_ward_of_part_one(self):
        for guest in GUESTS:
            for ticks in (1, 4):
                doubt = doubt_of(WARD, guest, ticks)
                if doubt is not None:
                    self.assertIs(is_plain_doubt(WARD, guest, ticks, doubt), True)
        self.assertIs(does_catch(Ward(CALM, BELLS, CATCHER), NO_MOVES, 1), True)


if __name__ == "__main__":
    unittest.main()

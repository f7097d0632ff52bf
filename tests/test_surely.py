"""Points [24], [26], and surely.py."""

import random
import unittest

from housewardens.books import Book
from housewardens.devices import Device
from housewardens.errors import NeverStays, NeverSure, TooMany
from housewardens.surely import (
    face_for,
    gap_for,
    gap_of,
    is_sure_lot,
    rounds_by_lot,
    rounds_for,
    rounds_of,
    stayer,
    surer,
)
from housewardens.surepapers import surely_holds
from housewardens.wards import Ward
from tests.helpers import (
    FACES,
    HALL,
    HUGE,
    STREET,
    STREET_WARD,
    WARD,
    error_of,
    plain_led,
    plain_wheres,
    some_wards,
)
from tests.plain import (
    ALL_SAFE,
    CLOCKED,
    DOOR,
    LOUD_HALL,
    NOOK,
    OPEN_SHUT,
    QUIET,
    THREE_FACES,
    has_within,
    plain_answers,
    plain_lots_met,
    plain_rounds,
    plain_safe,
    plain_stands,
    plain_stays,
    some_leaving_book,
    told,
)

SOME_HARMS = ((), ("bell",), ("shut",), ("bell", "shut"))
RINGS = ((False, False), (False, True))
# Somebody is within for some ticks, and goes by the only face; then nobody ever comes.
SLOW = Book(
    (0, 1, 2, -1),
    ((0, 1, "a", (0,), (), ()), (1, 2, "b", (0,), (), ()), (2, 3, "c", (0,), (), ()), (3, 3, "", (0, 1), (), ())),
    (0,),
)
# Nobody is within now and then, for ever.
TURNING = Book((-1, 0, 1), ((0, 1, "", (0,), (), ()), (1, 2, "", (0,), (), ()), (2, 0, "", (0,), (), ())), (0,))


def cases(many, seed, most=14):
    """Books, faces and harms, with few lots."""
    rng = random.Random(seed)
    for book in (HALL, LOUD_HALL, CLOCKED, DOOR, QUIET, NOOK, STREET, SLOW, TURNING):
        for harms in SOME_HARMS:
            yield book, FACES, harms
        yield book, ALL_SAFE, ()
        yield book, RINGS, ("bell",)
    for _ in range(many):
        book, faces = some_leaving_book(rng), rng.choice((FACES, ALL_SAFE, RINGS))
        if plain_lots_met(book, (0, 1), None, most):
            yield book, faces, rng.choice(((), *SOME_HARMS))
    for ward in some_wards(many, seed):
        faces = rng.choice((FACES, THREE_FACES, ALL_SAFE, RINGS))
        if plain_lots_met(ward.book, range(len(faces)), None, most):
            yield ward.book, faces, rng.choice(SOME_HARMS)


def lots_of(book, faces):
    return plain_lots_met(book, range(len(faces)), None, 10**6)


class Sure(unittest.TestCase):
    def test_lots(self):
        self.assertIs(is_sure_lot(HALL, ((0,),)), True)
        self.assertIs(is_sure_lot(HALL, ()), True)
        self.assertIs(is_sure_lot(lot=((0,), (0, 1)), book=HALL), False)
        for ward in some_wards(40, 171):
            wheres = plain_wheres(ward.book)
            for at in range(len(wheres)):
                lot = tuple(sorted(wheres[: at + 1]))
                self.assertIs(is_sure_lot(ward.book, lot), not has_within(ward.book, lot))


class Rounds(unittest.TestCase):
    def test_examples(self):
        self.assertEqual(rounds_for(DOOR, ALL_SAFE), 1)
        self.assertEqual(face_for(DOOR, ALL_SAFE, ((0,),)), 1)
        self.assertIsNone(rounds_for(DOOR, ALL_SAFE[:1]))
        self.assertIsNone(rounds_for(DOOR, RINGS, harms=("bell",)))
        self.assertEqual(rounds_for(DOOR, RINGS, harms=("shut",)), 1)
        self.assertEqual(dict(rounds_by_lot(DOOR, ALL_SAFE))[((1,),)], 0)

    def test_a_first_lot_that_is_sure(self):
        for harms in SOME_HARMS:
            self.assertEqual(rounds_for(CLOCKED, ((True, True),), harms=harms), 0)
        self.assertIsNone(face_for(CLOCKED, FACES, ((0,),)))
        self.assertEqual(surer(CLOCKED, FACES), Device((0,), (), (0,)))

    def test_no_safe_face(self):
        self.assertIsNone(rounds_for(DOOR, ((True, True),), harms=("shut",)))
        self.assertIsNone(rounds_for(DOOR, ((True, True), (True, True)), harms=("bell",)))
        self.assertEqual(rounds_for(DOOR, ((True, True), (True, True)), harms=()), 1)

    def test_several_rounds(self):
        self.assertEqual(rounds_for(SLOW, ALL_SAFE), 3)
        self.assertEqual(face_for(SLOW, ALL_SAFE, ((0,),)), 0)
        self.assertEqual([rounds for _, rounds in rounds_by_lot(SLOW, ALL_SAFE)], [3, 2, 1, 0])
        self.assertEqual(rounds_of(Ward(SLOW, ALL_SAFE, Device((0,), (), (0,)))), 3)
        self.assertIsNone(rounds_of(Ward(SLOW, ALL_SAFE, Device((1,), (), (0,)))))

    def test_against_a_search_over_lots(self):
        for book, faces, harms in cases(80, 172):
            lots = lots_of(book, faces)
            found = plain_rounds(book, faces, harms, lots)
            first = (book.first,)
            self.assertEqual(rounds_for(book, faces, harms=harms, most=HUGE), found.get(first))
            rows = tuple((lot, found.get(lot)) for lot in lots)
            self.assertEqual(rounds_by_lot(book, faces, harms=harms, most=HUGE), rows)
            for lot in lots:
                if lot not in found:
                    error = error_of(face_for, book, faces, lot, harms=harms, most=HUGE)
                    self.assertIs(type(error), NeverSure)
                    self.assertEqual(error.paper[0], "never")
                    self.assertIn(lot, error.paper[1])
                    moved = Book(book.rooms, book.moves, book.first)
                    self.assertIs(surely_holds(moved, faces, harms, error.paper), first not in found)
                    continue
                ways = [
                    face
                    for face in plain_safe(book, faces, lot, harms)
                    if all(found.get(row, HUGE) < found[lot] for _, row in plain_answers(book, lot, face))
                ]
                right = ways[0] if found[lot] else None
                self.assertEqual(face_for(book, faces, lot, harms=harms, most=HUGE), right)

    def test_surers(self):
        for book, faces, harms in cases(80, 173):
            rounds = rounds_for(book, faces, harms=harms, most=HUGE)
            if rounds is None:
                error = error_of(surer, book, faces, harms=harms, most=HUGE)
                self.assertIs(type(error), NeverSure)
                self.assertIs(surely_holds(book, faces, harms, error.paper), True)
                continue
            device = surer(book, faces, harms=harms, most=HUGE)
            ward = Ward(book, faces, device)
            self.assertEqual(rounds_of(ward, most=HUGE), rounds)
            self.check_safe_until_sure(ward, harms)

    def check_safe_until_sure(self, ward, harms):
        met, fresh = set(), {((ward.book.first,), 0)}
        while fresh:
            met |= fresh
            further = set()
            for lot, state in fresh:
                if has_within(ward.book, lot):
                    face = ward.device.shown[state]
                    self.assertIn(face, plain_safe(ward.book, ward.faces, lot, harms))
                    for heard, target in plain_answers(ward.book, lot, face):
                        further.add((target, plain_led(ward.device, state, heard)))
            fresh = further - met


class OfWards(unittest.TestCase):
    def test_examples(self):
        self.assertEqual(rounds_of(ward=Ward(DOOR, ALL_SAFE, Device((1,), (), (0,)))), 1)
        self.assertIsNone(rounds_of(Ward(DOOR, ALL_SAFE, Device((0,), (), (0,)))))
        self.assertIsNone(gap_of(ward=Ward(DOOR, ALL_SAFE, Device((0,), (), (0,))), most=60))
        self.assertEqual(gap_of(Ward(DOOR, ALL_SAFE, Device((1,), (), (0,)))), 1)
        self.assertEqual(gap_of(Ward(TURNING, ONE := ALL_SAFE[:1], Device((0,), (), (0,)))), 2)
        self.assertEqual(rounds_of(Ward(TURNING, ONE, Device((0,), (), (0,)))), 0)

    def test_against_long_logs(self):
        for ward in [WARD, STREET_WARD, *some_wards(80, 174)]:
            stands = plain_stands(ward)
            rounds, gaps = self.longest(ward, len(stands) + 1)
            self.assertEqual(rounds_of(ward, most=HUGE), rounds if rounds <= len(stands) else None)
            self.assertEqual(gap_of(ward, most=HUGE), gaps if gaps <= len(stands) else None)

    def longest(self, ward, many):
        """The most lots that are not sure, from the first one on and anywhere, as far as so many ticks tell."""
        rows, rounds = {((ward.book.first,), 0)}, 0
        while rounds < many:
            rows = {row for row in rows if has_within(ward.book, row[0])}
            if not rows:
                break
            rounds += 1
            rows = self.behind(ward, rows)
        gaps, rows = 0, set(plain_stands(ward))
        while gaps < many:
            rows = {row for row in rows if has_within(ward.book, row[0])}
            if not rows:
                break
            gaps += 1
            rows = self.behind(ward, rows)
        return rounds, gaps

    def behind(self, ward, rows):
        return {
            (target, plain_led(ward.device, state, heard))
            for lot, state in rows
            for heard, target in plain_answers(ward.book, lot, ward.device.shown[state])
        }

    def test_too_many(self):
        for ward in [WARD, STREET_WARD, *some_wards(30, 175)]:
            many = len(plain_stands(ward))
            for call in (rounds_of, gap_of):
                call(ward, most=many)
                for most in {many - 1, 0}:
                    error = error_of(call, ward, most=most)
                    self.assertIs(type(error), TooMany)
                    self.assertEqual(error.most, most)
                self.assertIs(type(error_of(call, ward, many)), TypeError)


class Gaps(unittest.TestCase):
    def test_examples(self):
        self.assertEqual(gap_for(DOOR, ALL_SAFE), 1)
        self.assertIsNone(gap_for(DOOR, RINGS, harms=("bell",)))
        self.assertEqual(gap_for(TURNING, ALL_SAFE[:1]), 2)
        self.assertEqual(gap_for(TURNING, ALL_SAFE), 0)
        self.assertEqual(gap_for(SLOW, ALL_SAFE), 3)
        self.assertEqual(stayer(TURNING, ALL_SAFE), Device((1,), (), (0,)))

    def test_against_a_search_over_lots_and_spans(self):
        found = {}
        for book, faces, harms in cases(60, 176, 8):
            lots = lots_of(book, faces)
            rows = [gap for gap in range(len(lots) + 1) if plain_stays(book, faces, harms, gap, lots)]
            gap = gap_for(book, faces, harms=harms, most=HUGE)
            self.assertEqual(gap, rows[0] if rows else None)
            found[gap] = found.get(gap, 0) + 1
        self.assertGreater(len(found), 3)

    def test_stayers(self):
        for book, faces, harms in cases(80, 177):
            gap = gap_for(book, faces, harms=harms, most=HUGE)
            if gap is None:
                error = error_of(stayer, book, faces, harms=harms, most=HUGE)
                self.assertIs(type(error), NeverStays)
                self.assertEqual(error.number, len(lots_of(book, faces)))
                continue
            device = stayer(book, faces, harms=harms, most=HUGE)
            ward = Ward(book, faces, device)
            self.assertEqual(gap_of(ward, most=HUGE), gap)
            for lot, state in plain_stands(ward):
                self.assertIn(device.shown[state], plain_safe(book, faces, lot, harms))


class TooManyLots(unittest.TestCase):
    def test_just_as_many_one_less_and_none(self):
        for book, faces, harms in cases(40, 178):
            many = len(lots_of(book, faces))
            calls = [
                lambda most: rounds_for(book, faces, harms=harms, most=most),
                lambda most: rounds_by_lot(book, faces, harms=harms, most=most),
                lambda most: face_for(book, faces, (book.first,), harms=harms, most=most),
                lambda most: surer(book, faces, harms=harms, most=most),
                lambda most: gap_for(book, faces, harms=harms, most=most),
                lambda most: stayer(book, faces, harms=harms, most=most),
            ]
            for call in calls:
                self.assertIn(type(error_of(call, many)), (type(None), NeverSure, NeverStays))
                for most in {many - 1, 0}:
                    error = error_of(call, most)
                    self.assertIs(type(error), TooMany)
                    self.assertEqual(error.most, most)

    def test_lots_behind_sure_ones_and_unsafe_faces_count(self):
        self.assertIs(type(error_of(rounds_for, CLOCKED, FACES, most=1)), TooMany)
        book = Book((0, -1), ((0, 1, "a", (1,), (), ()),), (0,))
        self.assertIs(type(error_of(rounds_for, book, RINGS, harms=("bell",), most=1)), TooMany)
        self.assertIs(type(error_of(surer, book, RINGS, harms=("bell",), most=2)), NeverSure)
        self.assertIs(type(error_of(stayer, book, RINGS, harms=("bell",), most=1)), TooMany)
        self.assertIs(type(error_of(stayer, book, RINGS, harms=("bell",), most=2)), NeverStays)

    def test_by_name(self):
        for call in (rounds_for, rounds_by_lot, surer, gap_for, stayer):
            self.assertIs(type(error_of(call, DOOR, ALL_SAFE, ())), TypeError)
            one = call(most=60, harms=("shut",), faces=ALL_SAFE, book=DOOR)
            self.assertEqual(told(one), told(call(DOOR, ALL_SAFE, harms=("shut",))))
        self.assertEqual(face_for(lot=((0,),), harms=(), most=60, faces=ALL_SAFE, book=DOOR), 1)
        self.assertIs(type(error_of(face_for, DOOR, ALL_SAFE, ((0,),), ())), TypeError)
        self.assertEqual(OPEN_SHUT, ("open", "shut"))


if __name__ == "__main__":
    unittest.main()

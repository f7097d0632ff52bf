"""Point [40], and office.py."""

import inspect
import random
import unittest

from housewardens.devices import Device
from housewardens.errors import (
    BadName,
    BadWard,
    Harmful,
    NameTaken,
    NotAlike,
    NotHeard,
    NothingToRedo,
    NothingToUndo,
    NoWard,
    TooMany,
)
from housewardens.office import Office
from housewardens.wards import Ward, ward_holds
from tests.helpers import FACES, HALL, PLAIN, STREET_WARD, WARD, error_of, some_device, some_wards, wild_values
from tests.plain import CLOCKED, DOOR, LOUD_HALL, counting_device, told
from tests.plain_guests import THIEF
from tests.plain_office import (
    PlainOffice,
    is_plain_heard,
    is_plain_name,
    plain_first_parting,
    plain_kept,
    plain_triples,
)
from tests.test_keepers import LEAVING

NEVER_ARMED = Device((0,), (), (0,))
ARMED = Device((1,), (), (0,))
LATE = Device((0, 0, 1), ((0, "a", 1), (1, "", 2)), (0, 1, 2))
# As PLAIN beside the hall: "ab" is never heard there.
BOTH = Device((0, 1, 1), ((0, "a", 1), (0, "ab", 2)), (0, 1, 2))
NAMES = ("hall", "a", "street")


def told_by(office):
    """All that an office tells."""
    rows = []
    for name in office.names_open:
        row = (office.ward_of(name), office.editions_of(name), office.day_of(name), office.lot_now(name))
        rows.append((name, *row, office.face_now(name)))
    return len(office), office.names_open, rows


def open_office(*wards):
    office = Office()
    for name, ward in zip(NAMES, wards):
        office.open_ward(name, ward)
    return office


class Examples(unittest.TestCase):
    def test_examples(self):
        office = open_office(WARD)
        office.hear("hall", "a")
        self.assertEqual(office.lot_now("hall"), ((0,), (0, 1), (0, 1, 2), (0, 2)))
        self.assertEqual(office.face_now("hall"), 1)
        error = error_of(office.hear, "hall", "b")
        self.assertIs(type(error), NotHeard)
        self.assertEqual(error.heard, "b")
        error = error_of(office.renew, "hall", NEVER_ARMED)
        self.assertIs(type(error), NotAlike)
        self.assertEqual(error.log, ("a",))
        # Whoever leaves is heard as a, by which PLAIN is armed: so WARD keeps "open", too, and the gate asks for it.
        error = error_of(office.swap, "hall", NEVER_ARMED)
        self.assertIs(type(error), Harmful)
        self.assertIs(ward_holds(Ward(HALL, FACES, NEVER_ARMED), ("open",), error.paper), True)
        self.assertIsNone(office.swap("hall", BOTH))
        self.assertEqual(office.ward_of("hall"), Ward(HALL, FACES, BOTH))
        self.assertEqual(office.day_of("hall"), ())
        self.assertEqual(office.editions_of("hall"), (PLAIN, BOTH))

    def test_an_empty_office(self):
        office = Office()
        self.assertEqual(told_by(office), (0, (), []))
        self.assertIs(type(error_of(office.undo)), NothingToUndo)
        self.assertIs(type(error_of(office.redo)), NothingToRedo)
        self.assertEqual(told_by(office), (0, (), []))

    def test_names_are_a_property(self):
        self.assertIsInstance(vars(Office)["names_open"], property)
        for name in ("open_ward", "close_ward", "hear", "renew", "swap", "undo", "redo", "ward_of", "editions_of",
                     "day_of", "lot_now", "face_now", "__len__", "__init__"):  # fmt: skip
            self.assertTrue(inspect.isfunction(vars(Office)[name]), name)

    def test_by_name(self):
        office = Office()
        office.open_ward(ward=WARD, name="hall")
        office.hear(heard="a", name="hall")
        office.renew(device=BOTH, name="hall", most=60)
        office.swap(device=ARMED, name="hall", most=60)
        self.assertEqual(office.ward_of(name="hall").device, ARMED)
        self.assertEqual(office.day_of(name="hall"), ())
        self.assertEqual(len(office.editions_of(name="hall")), 3)
        self.assertEqual(office.lot_now(name="hall"), ((1,),))
        self.assertEqual(office.face_now(name="hall"), 1)
        office.close_ward(name="hall")
        self.assertEqual(len(office), 5)
        for call in (office.renew, office.swap):
            self.assertIs(type(error_of(call, "hall", PLAIN, 60)), TypeError)


class Names(unittest.TestCase):
    def test_names(self):
        for thing in [*wild_values(), "abcdefgh", "abcdefghi", "z", "aA", "a b", "hall ", THIEF, ("hall",), ["hall"]]:
            office = open_office(WARD)
            before = len(office)
            error = error_of(office.open_ward, thing, STREET_WARD)
            if is_plain_name(thing):
                self.assertIsNone(error, thing)
                self.assertEqual(len(office), before + 1)
            else:
                self.assertIs(type(error), BadName, thing)
                self.assertEqual(told(error.name), told(thing))
                self.assertEqual(len(office), before)
        error = error_of(office.open_ward, "hall", STREET_WARD)
        self.assertIs(type(error), NameTaken)
        self.assertEqual(error.name, "hall")
        self.assertEqual(office.names_open, tuple(sorted(office.names_open)))

    def test_no_ward(self):
        office = open_office(WARD)
        rest = ((office.close_ward,), (office.hear, "a"), (office.hear, None), (office.renew, PLAIN), (office.swap, PLAIN),
                (office.renew, Device((7,), (), (0,))), (office.ward_of,), (office.editions_of,), (office.day_of,),
                (office.lot_now,), (office.face_now,))  # fmt: skip
        for thing in [*wild_values(), "hal", "hall ", "HALL", ("hall",), THIEF]:
            for call, *more in rest:
                error = error_of(call, thing, *more)
                self.assertIs(type(error), NoWard, (call, thing))
                self.assertEqual(told(error.name), told(thing))
        self.assertEqual(len(office), 1)
        office.close_ward("hall")
        for call, *more in rest:
            self.assertIs(type(error_of(call, "hall", *more)), NoWard)

    def test_heard_strings(self):
        for thing in [*wild_values(), "ba", "aa", "abc", "a ", "A", THIEF, ("a",), ["a"], b"a"]:
            office = open_office(WARD)
            right = is_plain_heard(thing) and thing in ("", "a")
            error = error_of(office.hear, "hall", thing)
            if right:
                self.assertIsNone(error)
                self.assertEqual(office.day_of("hall"), (thing,))
            else:
                self.assertIs(type(error), NotHeard, thing)
                self.assertEqual(told(error.heard), told(thing))
                self.assertEqual(told_by(office)[0], 1)

    def test_two_offices_share_nothing(self):
        one, other = open_office(WARD), Office()
        self.assertEqual(other.names_open, ())
        other.open_ward("hall", STREET_WARD)
        one.hear("hall", "a")
        one.close_ward("hall")
        self.assertEqual(other.ward_of("hall"), STREET_WARD)
        self.assertEqual((len(one), len(other)), (3, 1))

    def test_two_names_for_one_ward(self):
        office = open_office(WARD, WARD)
        office.hear("hall", "a")
        self.assertEqual(office.day_of("a"), ())
        office.undo()
        self.assertEqual(office.day_of("hall"), ())


class Gates(unittest.TestCase):
    def refused(self, kind, call, *told_values, **more):
        """The error of a call that has to raise one, at an office that stays as it was."""
        office = call.__self__
        before = told(told_by(office))
        error = error_of(call, *told_values, **more)
        self.assertIs(type(error), kind)
        self.assertEqual(told(told_by(office)), before)
        return error

    def test_renew(self):
        office = open_office(WARD)
        office.hear("hall", "a")
        office.renew("hall", BOTH)
        self.assertEqual(office.ward_of("hall").device, BOTH)
        self.assertEqual(office.day_of("hall"), ("a",))
        self.assertEqual(office.face_now("hall"), 1)
        office.renew("hall", BOTH)
        self.assertEqual(office.editions_of("hall"), (PLAIN, BOTH, BOTH))
        self.assertEqual(len(office), 4)
        error = self.refused(NotAlike, office.renew, "hall", LATE)
        self.assertEqual(error.log, ("a",))

    def test_a_device_with_a_number_of_no_face(self):
        office = open_office(WARD)
        for call in (office.renew, office.swap):
            for device in (Device((2,), (), (0,)), Device((0, 99), (), (0, 0))):
                for most in (0, 60):
                    error = self.refused(BadWard, call, "hall", device, most=most)
                    self.assertEqual(error.part, "device")

    def test_open_has_to_be_kept(self):
        # In the loud hall LEAVING keeps open and shut; this one shows the same faces as long as somebody is heard.
        ward = Ward(LOUD_HALL, FACES, LEAVING)
        self.assertEqual(plain_kept(ward), ("bell", "open", "shut"))
        office = open_office(ward)
        office.renew("hall", Device((0, 0, 1, 1), ((0, "", 1), (1, "", 2), (2, "", 3), (3, "", 2)), (0, 0, 0, 0)))
        error = self.refused(Harmful, office.swap, "hall", NEVER_ARMED)
        self.assertIs(ward_holds(Ward(LOUD_HALL, FACES, NEVER_ARMED), ("open",), error.paper), True)
        self.assertEqual(error.paper[0], "harm")
        # In a house that is never silent the same faces come, but silence leads to no armed face.
        loud = CLOCKED.without_moves((0,))
        steps = tuple((0, heard, 0) for heard in ("a", "ab", "abc", "ac", "b", "bc", "c"))
        office = open_office(Ward(loud, FACES, Device((0, 1), steps, (1, 1))))
        self.assertIn("open", plain_kept(office.ward_of("hall")))
        self.assertIsNone(plain_first_parting(office.ward_of("hall"), NEVER_ARMED))
        error = self.refused(Harmful, office.renew, "hall", NEVER_ARMED)
        self.assertIs(ward_holds(Ward(loud, FACES, NEVER_ARMED), ("open",), error.paper), True)

    def test_what_the_present_ward_does_not_keep_need_not_be_kept(self):
        office = open_office(Ward(HALL, ((False, False), (True, False)), LEAVING))
        self.assertEqual(plain_kept(office.ward_of("hall")), ("bell", "open"))
        self.refused(Harmful, office.swap, "hall", NEVER_ARMED)
        for device in (ARMED, LEAVING, PLAIN, BOTH):
            office.swap("hall", device)
        # Of a device that is armed too late neither "open" nor "shut" has to be kept.
        office = open_office(Ward(HALL, FACES, Device((0, 0, 1, 0), ((0, "a", 1), (1, "", 2)), (0, 1, 3, 3))))
        self.assertEqual(plain_kept(office.ward_of("hall")), ("bell",))
        for device in (NEVER_ARMED, ARMED):
            office.swap("hall", device)
            office.undo()
        office = open_office(Ward(HALL, ((False, False), (True, True)), Device((0,), (), (0,))))
        error = self.refused(Harmful, office.swap, "hall", PLAIN)
        self.assertIs(ward_holds(Ward(HALL, ((False, False), (True, True)), PLAIN), ("bell", "shut"), error.paper), True)

    def test_too_many_of_each(self):
        # Triples beside the book, pictures with the present device, pictures with the new one.
        book = HALL
        small, large = Ward(book, FACES, PLAIN), Device((0, 0, 1), ((0, "", 1), (0, "a", 2), (1, "a", 2)), (0, 1, 2))
        office = open_office(small)
        rows = (len(plain_triples(small, large)), 6, 9)
        for most in range(0, 12):
            kept = Office()
            kept.open_ward("hall", small)
            model = PlainOffice()
            model.open_ward("hall", small)
            for call, plain_call in ((kept.renew, model.renew), (kept.swap, model.swap)):
                error = error_of(call, "hall", large, most=most)
                right = plain_call("hall", large, most)
                self.assertEqual(type(error).__name__ if error else None, right, (most, rows))
                if right == "TooMany":
                    self.assertEqual(error.most, most)
                    self.assertEqual(told_by(kept)[0], model.many)
        self.refused(TooMany, office.renew, "hall", large, most=0)
        # Ahead of NotAlike and of Harmful.
        self.refused(TooMany, office.renew, "hall", NEVER_ARMED, most=1)
        self.refused(TooMany, office.swap, "hall", NEVER_ARMED, most=1)

    def test_the_order_of_errors_against_the_plain_office(self):
        rng = random.Random(391)
        found = {}
        for ward in some_wards(150, 391):
            device = some_device(rng, ward.faces + ((True, True),) * rng.randint(0, 1))
            for most in (0, 2, 4, 6, 8, 60):
                for deed in ("renew", "swap"):
                    office, model = open_office(ward), PlainOffice()
                    model.open_ward("hall", ward)
                    error = error_of(getattr(office, deed), "hall", device, most=most)
                    right = getattr(model, deed)("hall", device, most)
                    name = type(error).__name__ if error else None
                    self.assertEqual(name, right)
                    self.assertEqual(told(told_by(office)), told(model.told()))
                    found[deed, name] = found.get((deed, name), 0) + 1
                    if name == "NotAlike":
                        self.assertEqual(error.log, plain_first_parting(ward, device))
                    if name == "Harmful":
                        kept = plain_kept(ward) if deed == "swap" else ("open",)
                        self.assertIs(ward_holds(Ward(ward.book, ward.faces, device), kept, error.paper), True)
        self.assertLessEqual({("renew", "NotAlike"), ("renew", None), ("swap", "Harmful"), ("swap", None)}, set(found))


class Changes(unittest.TestCase):
    def test_undo_and_redo_of_each_kind(self):
        office = open_office(WARD)
        deeds = (
            lambda: office.hear("hall", ""),
            lambda: office.hear("hall", "a"),
            lambda: office.renew("hall", BOTH),
            lambda: office.renew("hall", BOTH),
            lambda: office.swap("hall", ARMED),
            lambda: office.hear("hall", ""),
            lambda: office.open_ward("a", STREET_WARD),
            lambda: office.close_ward("hall"),
            lambda: office.open_ward("hall", STREET_WARD),
        )
        rows = [told(told_by(office))]
        for deed in deeds:
            self.assertIsNone(deed())
            rows.append(told(told_by(office)))
        for row in rows[-2::-1]:
            self.assertIsNone(office.undo())
            self.assertEqual(told(told_by(office)), row)
        for row in rows[1:]:
            self.assertIsNone(office.redo())
            self.assertEqual(told(told_by(office)), row)
        self.assertIs(type(error_of(office.redo)), NothingToRedo)
        for _ in range(len(deeds) + 1):
            office.undo()
        self.assertIs(type(error_of(office.undo)), NothingToUndo)
        self.assertEqual(office.names_open, ())

    def test_a_swap_that_is_taken_back_brings_the_day_back(self):
        office = open_office(WARD)
        office.hear("hall", "a")
        office.swap("hall", ARMED)
        self.assertEqual(office.day_of("hall"), ())
        office.undo()
        self.assertEqual(office.day_of("hall"), ("a",))
        self.assertEqual(office.editions_of("hall"), (PLAIN,))
        office.redo()
        self.assertEqual(office.day_of("hall"), ())

    def test_a_further_change_behind_an_undo(self):
        office = open_office(WARD)
        office.hear("hall", "a")
        office.undo()
        office.hear("hall", "")
        self.assertIs(type(error_of(office.redo)), NothingToRedo)
        self.assertEqual(office.day_of("hall"), ("",))

    def test_what_can_be_made_again_stays_so_behind_errors(self):
        office = open_office(WARD)
        office.hear("hall", "a")
        office.undo()
        for call, *values in ((office.hear, "hall", "z"), (office.open_ward, "hall", WARD), (office.open_ward, "", WARD),
                              (office.close_ward, "no"), (office.renew, "hall", NEVER_ARMED),
                              (office.swap, "hall", Device((9,), (), (0,)))):  # fmt: skip
            self.assertIsNotNone(error_of(call, *values))
        self.assertIs(type(error_of(office.swap, "hall", NEVER_ARMED, most=0)), TooMany)
        office.redo()
        self.assertEqual(office.day_of("hall"), ("a",))

    def test_rows_of_many_deeds(self):
        rng = random.Random(392)
        wards = [WARD, STREET_WARD, Ward(CLOCKED, FACES, counting_device("a", 2, 2)), Ward(DOOR, FACES, PLAIN)]
        devices = [PLAIN, BOTH, LATE, NEVER_ARMED, counting_device("a", 3, 2), Device((2,), (), (0,)), LEAVING]
        found = {}
        for _ in range(12):
            office, model = Office(), PlainOffice()
            for _ in range(60):
                name = rng.choice((*NAMES, *NAMES, "street", "", "Hall", None))
                deed, *values = rng.choice(
                    (
                        ("open_ward", name, rng.choice(wards)),
                        ("close_ward", name),
                        *[("hear", name, rng.choice(("", "a", "b", "d", "x", "ba", None)))] * 4,
                        *[("renew", name, rng.choice(devices))] * 2,
                        *[("swap", name, rng.choice(devices))] * 2,
                        ("undo",),
                        ("undo",),
                        ("redo",),
                    )
                )
                error = error_of(getattr(office, deed), *values)
                right = getattr(model, deed)(*values)
                self.assertEqual(type(error).__name__ if error else None, right, (deed, values))
                self.assertEqual(told(told_by(office)), told(model.told()))
                found[deed, right] = found.get((deed, right), 0) + 1
        self.assertGreaterEqual(len(found), 17, found)

    def test_many_changes(self):
        office = open_office(WARD)
        for _ in range(60):
            office.hear("hall", "")
        self.assertEqual(office.day_of("hall"), ("",) * 60)
        for _ in range(139):
            office.swap("hall", ARMED)
        self.assertEqual(len(office), 200)
        for _ in range(200):
            office.undo()
        self.assertEqual(told_by(office), (0, (), []))

    def test_what_is_asked_changes_nothing(self):
        office = open_office(WARD, STREET_WARD)
        before = told(told_by(office))
        for _ in range(3):
            self.assertEqual(told(told_by(office)), before)


if __name__ == "__main__":
    unittest.main()

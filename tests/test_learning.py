"""Point [38], and learning.py."""

import itertools
import random
import unittest

from housewardens.books import Book
from housewardens.devices import Device
from housewardens.errors import OtherFaces, TooMany
from housewardens.learning import first_learned, judge_learned, learned_holds, lots_of_pictures
from housewardens.onlookers import Onlooker
from housewardens.sights import knows_empty, knows_somebody
from housewardens.wards import Ward
from tests.helpers import (
    HALL,
    HUGE,
    STREET,
    STREET_WARD,
    WARD,
    calls_leave_alone,
    error_of,
    plain_runs,
    plain_wheres,
    some_wards,
    variants,
    wild_values,
)
from tests.plain import CLOCKED, DOOR, counting_device
from tests.plain_sights import (
    DEAF,
    EAR,
    is_plain_learned,
    plain_class,
    plain_knows,
    plain_lots_of_pictures,
    plain_lots_on,
    plain_possible,
    some_onlooker,
)

WORDS = ("empty", "somebody")
NEVER = ("never", ((((0,), 0),), (((0, 1), 0), ((1,), 0))))
# Who is away comes in and goes again, each of it heard.
GATE = Book((0, -1), ((0, 1, "d", (0, 1), (), ()), (1, 0, "c", (0,), (), ()), (1, 1, "", (0, 1), (), ())), (0,))


def watches(many, seed, most=30):
    """Small wards and onlookers for which few lots come."""
    rng = random.Random(seed)
    wards = [WARD, STREET_WARD, Ward(GATE, ((False, False), (True, True)), counting_device("d", 4, 2))]
    wards += [Ward(book, WARD.faces, counting_device("a", 2, 2)) for book in (CLOCKED, DOOR)]
    for ward in wards + some_wards(many, seed):
        rows = [some_onlooker(rng, len(ward.faces)), Onlooker("abcdx", tuple(range(len(ward.faces))))]
        for onlooker in rows:
            if plain_lots_of_pictures(ward, onlooker, most) is not None:
                yield ward, onlooker


class Learning(unittest.TestCase):
    def test_examples(self):
        self.assertEqual(first_learned(STREET_WARD, EAR, "somebody"), ())
        self.assertIsNone(first_learned(STREET_WARD, EAR, "empty"))
        self.assertIs(learned_holds(STREET_WARD, EAR, "empty", NEVER), True)
        self.assertEqual(judge_learned(STREET_WARD, EAR, "empty"), NEVER)
        self.assertEqual(judge_learned(word="somebody", onlooker=EAR, ward=STREET_WARD, most=60), ("learns", ()))
        self.assertEqual(lots_of_pictures(STREET_WARD, EAR), NEVER[1])
        self.assertEqual(lots_of_pictures(onlooker=DEAF, ward=STREET_WARD, most=2)[0], (((0,), 0),))

    def test_lots_of_pictures(self):
        for ward, onlooker in watches(60, 361):
            right = plain_lots_of_pictures(ward, onlooker)
            self.assertEqual(lots_of_pictures(ward, onlooker, most=len(right)), right)
            for most in {len(right) - 1, 0}:
                error = error_of(lots_of_pictures, ward, onlooker, most=most)
                self.assertIs(type(error), TooMany)
                self.assertEqual(error.most, most)

    def test_lots_against_all_runs(self):
        for ward, onlooker in watches(12, 362):
            lots = lots_of_pictures(ward, onlooker)
            for run, _ in itertools.islice(plain_runs(ward, 2), 60):
                self.assertIn(plain_possible(ward, onlooker, run), lots)

    def test_first_learned_against_all_runs(self):
        found = {True: 0, False: 0}
        for ward, onlooker in watches(50, 363):
            for word in WORDS:
                learned = first_learned(ward, onlooker, word)
                self.assertEqual(learned, first_learned(word=word, onlooker=onlooker, ward=ward, most=60))
                found[learned is None] += 1
                knows = knows_empty if word == "empty" else knows_somebody
                for run, _ in itertools.islice(plain_runs(ward, 3), 400):
                    if run == learned:
                        break
                    self.assertIs(knows(ward, onlooker, run), False, (run, learned))
                if learned is not None:
                    self.assertIs(knows(ward, onlooker, learned), True)
                    if len(learned) < 3:
                        self.assertIs(plain_knows(ward, word, plain_possible(ward, onlooker, learned)), True)
        self.assertGreater(min(found.values()), 30)

    def test_longer_runs(self):
        # Whoever left is heard, and face 1 lets nobody come: a device that counts shows it behind the first d.
        ward = Ward(GATE, ((False, False), (False, False)), counting_device("d", 2, 2))
        hears = Onlooker("cd", (0, 1))
        self.assertEqual(first_learned(ward, hears, "empty"), ((0,),))
        late = Ward(DOOR, WARD.faces, Device((0, 1), ((0, "d", 1),), (0, 1)))
        # By face 1 everybody has to go: then it is known.
        self.assertEqual(first_learned(late, Onlooker("", (0, 1)), "empty"), ((0, 1), (1, 3)))
        self.assertIsNone(first_learned(late, Onlooker("", (0, 0)), "empty"))
        self.assertIs(learned_holds(late, Onlooker("", (0, 1)), "empty", ("learns", ((1,), (3,)))), True)
        self.assertIs(learned_holds(late, Onlooker("", (0, 1)), "empty", ("learns", ((0, 1), (1,)))), False)
        # Three d in a row are needed until the counting device shows a face by which all are out.
        book = Book((0, -1), ((0, 0, "d", (0,), (), ()), (0, 1, "d", (1,), (), ()), (1, 1, "", (0, 1), (), ())), (0,))
        faces = ((False, False), (False, False))
        ward = Ward(book, faces, Device((0, 0, 0, 1), ((0, "d", 1), (1, "d", 2), (2, "d", 3)), (0, 1, 2, 3)))
        for onlooker in (Onlooker("", (0, 0)), Onlooker("d", (0, 1))):
            self.assertEqual(first_learned(ward, onlooker, "empty"), ((0,), (0,), (0,), (1,)))
            self.assertEqual(judge_learned(ward, onlooker, "empty"), ("learns", ((0,), (0,), (0,), (1,))))

    def test_papers(self):
        for ward, onlooker in watches(60, 364):
            for word in WORDS:
                paper = judge_learned(ward, onlooker, word)
                self.assertEqual(paper[0] == "learns", first_learned(ward, onlooker, word) is not None)
                self.assertIs(learned_holds(ward, onlooker, word, paper), True)
                self.assertIs(is_plain_learned(ward, onlooker, word, paper), True)
                other = "never" if paper[0] == "learns" else "learns"
                self.assertIs(learned_holds(ward, onlooker, word, (other, paper[1])), False)

    def test_too_many(self):
        for ward, onlooker in watches(40, 365):
            many = len(plain_lots_of_pictures(ward, onlooker))
            for call, word in itertools.product((first_learned, judge_learned), WORDS):
                call(ward, onlooker, word, most=many)
                for most in {many - 1, 0}:
                    # Also where a run is met ahead of these.
                    error = error_of(call, ward, onlooker, word, most=most)
                    self.assertIs(type(error), TooMany)
                    self.assertEqual(error.most, most)
        for call in (first_learned, judge_learned):
            self.assertIs(type(error_of(call, STREET_WARD, EAR, "somebody", most=1)), TooMany)
            self.assertIs(type(error_of(call, STREET_WARD, EAR, "somebody", 60)), TypeError)

    def test_other_faces(self):
        for onlooker in (Onlooker("", (0,)), Onlooker("", (0, 1, 2))):
            self.assertIs(type(error_of(lots_of_pictures, WARD, onlooker, most=0)), OtherFaces)
            self.assertIs(type(error_of(first_learned, WARD, onlooker, "empty", most=0)), OtherFaces)
            self.assertIs(type(error_of(judge_learned, WARD, onlooker, "empty", most=0)), OtherFaces)
            for thing in (None, (), ("learns", ()), ("never", ())):
                self.assertIs(type(error_of(learned_holds, WARD, onlooker, "empty", thing)), OtherFaces)


class Papers(unittest.TestCase):
    def check(self, ward, onlooker, word, thing):
        found = learned_holds(ward, onlooker, word, thing)
        self.assertIs(found, is_plain_learned(ward, onlooker, word, thing), thing)
        return found

    def test_longer_runs_hold_too(self):
        for run in ((), ((0,),), ((0,), (0,)), ((0,),) * 40, ((1,),), ((0, 1),), ((0, 1), (0, 1))):
            right = all(choice == (0,) for choice in run)
            self.assertIs(self.check(STREET_WARD, EAR, "somebody", ("learns", run)), right)
            self.assertIs(self.check(STREET_WARD, DEAF, "somebody", ("learns", run)), run == ())
            self.assertIs(self.check(STREET_WARD, EAR, "empty", ("learns", run)), False)

    def test_lots_that_never_come(self):
        rng = random.Random(366)
        found = [0, 0]
        for ward, onlooker in watches(40, 367):
            for word in WORDS:
                lots = lots_of_pictures(ward, onlooker)
                pictures = [(where, state) for where in plain_wheres(ward.book) for state in range(len(ward.device.shown))]
                for _ in range(3):
                    lot = tuple(sorted(rng.sample(pictures, min(len(pictures), rng.randint(1, 3)))))
                    known, fresh = set(lots), {lot}
                    while fresh and len(known) < 100:
                        known |= fresh
                        fresh = {further for some in fresh for further in plain_lots_on(ward, onlooker, some)} - known
                    found[self.check(ward, onlooker, word, ("never", tuple(sorted(known))))] += 1
                    self.check(ward, onlooker, word, ("never", tuple(sorted({*lots, lot}))))
        self.assertGreater(min(found), 30)

    def test_parts_of_papers(self):
        for ward, onlooker in watches(20, 368):
            for word in WORDS:
                kind, rows = judge_learned(ward, onlooker, word)
                for at in range(len(rows)):
                    self.check(ward, onlooker, word, (kind, rows[:at] + rows[at + 1 :]))
                    self.check(ward, onlooker, word, (kind, rows[: at + 1] + rows[at:]))
                self.check(ward, onlooker, word, (kind, rows[::-1]))
                for other in ("learns", "never", "kept", None, 0):
                    self.check(ward, onlooker, word, (other, rows))
                    self.check(ward, onlooker, word, (other, ()))

    def test_any_value(self):
        parts = [None, True, False, 0, 1, -1, "", "never", (), [], (0,), ((0,), 0), (((0,), 0),)]
        late = Ward(DOOR, WARD.faces, Device((0, 1), ((0, "d", 1),), (0, 1)))
        for ward, onlooker, word in (
            (STREET_WARD, EAR, "empty"),
            (STREET_WARD, EAR, "somebody"),
            (late, Onlooker("", (0, 1)), "empty"),
            (late, Onlooker("", (0, 0)), "somebody"),
        ):
            paper = judge_learned(ward, onlooker, word)
            for thing in [*wild_values(), *variants(paper, parts)]:
                found = calls_leave_alone(self, lambda value: learned_holds(ward, onlooker, word, value), thing)
                self.assertIs(found, is_plain_learned(ward, onlooker, word, thing), thing)
        self.assertIs(learned_holds(thing=NEVER, word="empty", onlooker=EAR, ward=STREET_WARD), True)

    def test_lots_with_faces_of_unlike_classes(self):
        device = Device((0, 1), ((0, "x", 1),), (0, 1))
        ward = Ward(Book(STREET.rooms, STREET.moves, (0,)), ((False, False), (True, True)), device)
        lots = lots_of_pictures(ward, Onlooker("", (0, 0)))
        self.assertTrue(any(len({plain_class(ward, Onlooker("", (0, 1)), row) for row in lot}) == 2 for lot in lots))
        self.assertIs(self.check(ward, Onlooker("", (0, 0)), "empty", ("never", lots)), True)
        self.assertIs(self.check(ward, Onlooker("", (0, 1)), "empty", ("never", lots)), False)
        self.assertIs(self.check(ward, Onlooker("", (5, 5)), "empty", ("never", lots)), True)

    def test_lots_that_are_none_beside_lots_that_are_right(self):
        gone, both = ((1,), 0), ((0, 1), 0)
        for lot, right in (((both,), True), ((gone, both), False), ((both, gone, gone), False), ((both, both), False),
                           ((), False), ((both, ((2,), 0)), False)):  # fmt: skip
            thing = ("never", tuple(sorted({*NEVER[1], (both,), lot})))
            self.assertIs(self.check(STREET_WARD, EAR, "empty", thing), right, lot)

    def test_states_just_outside(self):
        for state in (-1, 1, True, HUGE):
            for where in ((0,), (0, 1), (2,), ()):
                thing = ("never", tuple(sorted({*NEVER[1], ((where, state),)}, key=repr)))
                self.assertIs(learned_holds(STREET_WARD, EAR, "empty", thing), False)
        self.assertIs(learned_holds(STREET_WARD, EAR, "empty", ("never", ((), *NEVER[1]))), False)
        self.assertIs(learned_holds(Ward(HALL, WARD.faces, WARD.device), Onlooker("", (0, 0)), "empty", NEVER), False)


if __name__ == "__main__":
    unittest.main()

"""Points [9], [10], the first sentence of [11], and goings.py."""

import itertools
import random
import unittest

from housewardens.books import Book
from housewardens.devices import Device
from housewardens.goings import are_apart, do_make, is_walk, steps_of
from housewardens.wards import Ward
from tests.helpers import (
    FACES,
    HALL,
    PLAIN,
    STREET_WARD,
    WARD,
    calls_leave_alone,
    exact,
    is_among,
    plain_open,
    plain_runs,
    plain_ticks,
    some_run,
    some_wards,
    variants,
    wild_values,
)

RUN = ((0, 1), (0, 1))
WALKS = ((0, (0, 0)), (0, (0, 1)), (0, (1, -1)))


def plain_steps(ward, run):
    """All steps of a run, by the words of the document."""
    if not run:
        return tuple((0, standing, -1) for standing in ward.book.first)
    found, picture = set(), (ward.book.first, 0)
    for number, choice in enumerate(run):
        where, state = picture
        numbers = plain_open(ward.book, where, ward.device.shown[state])
        origins = {ward.book.moves[move][0] for move in numbers}
        found |= {(number, ward.book.moves[move][0], move) for move in choice}
        found |= {(number, standing, -1) for standing in where if standing not in origins}
        picture = {made: further for made, _, further in plain_ticks(ward, picture)}[choice]
    return tuple(sorted(found))


def plain_walks(ward, run):
    """All walks of a run, each with the steps that are on it."""
    if not run:
        return {(standing, ()): {(0, standing, -1)} for standing in ward.book.first}
    rows = [(standing, (), standing, frozenset()) for standing in ward.book.first]
    steps = plain_steps(ward, run)
    for number in range(len(run)):
        rows = [
            (begin, moves + (step[2],), step[1] if step[2] == -1 else ward.book.moves[step[2]][1], passed | {step})
            for begin, moves, standing, passed in rows
            for step in steps
            if step[:2] == (number, standing)
        ]
    return {(begin, moves): set(passed) for begin, moves, _, passed in rows}


def wards_and_runs(many, seed, longest=4):
    rng = random.Random(seed)
    yield STREET_WARD, RUN
    yield STREET_WARD, ()
    yield WARD, ((0, 1, 2), (1, 2, 3), (1, 3))
    for ward in some_wards(many, seed):
        yield ward, some_run(rng, ward, rng.randint(0, longest))


class Steps(unittest.TestCase):
    def test_examples(self):
        steps = ((0, 0, 0), (0, 0, 1), (1, 0, 0), (1, 0, 1), (1, 1, -1))
        self.assertEqual(steps_of(STREET_WARD, RUN), steps)
        self.assertEqual(steps_of(run=RUN, ward=STREET_WARD), steps)

    def test_the_empty_run(self):
        self.assertEqual(steps_of(STREET_WARD, ()), ((0, 0, -1),))
        self.assertEqual(steps_of(Ward(Book((0, -1, 2), (), (0, 2)), FACES, PLAIN), ()), ((0, 0, -1), (0, 2, -1)))
        self.assertEqual(steps_of(WARD, ()), ((0, 1, -1),))

    def test_those_who_stay_put(self):
        ward = Ward(Book((0, -1), (), (0, 1)), FACES, PLAIN)
        self.assertEqual(steps_of(ward, ((), ())), ((0, 0, -1), (0, 1, -1), (1, 0, -1), (1, 1, -1)))

    def test_the_face_of_each_tick_counts(self):
        book = Book((0,), ((0, 0, "a", (0,), (), ()),), (0,))
        ward = Ward(book, FACES, Device((0, 1), ((0, "a", 1),), (0, 0)))
        self.assertEqual(steps_of(ward, ((0,), (), (0,))), ((0, 0, 0), (1, 0, -1), (2, 0, 0)))

    def test_some_runs(self):
        for ward, run in wards_and_runs(150, 41):
            self.assertEqual(steps_of(ward, run), plain_steps(ward, run))


class Walks(unittest.TestCase):
    def test_examples(self):
        for walk in WALKS:
            self.assertIs(is_walk(STREET_WARD, RUN, walk), True)
        self.assertIs(is_walk(thing=(0, (1, -1)), run=RUN, ward=STREET_WARD), True)
        for walk in ((0, (1, 1)), (0, (1, 0)), (0, (0, -1)), (0, (0,)), (0, (0, 0, 0)), (1, (-1, -1)), (0, (2, 0))):
            self.assertIs(is_walk(STREET_WARD, RUN, walk), False, walk)

    def test_a_move_that_is_not_made_is_no_step(self):
        self.assertIs(is_walk(STREET_WARD, ((0,),), (0, (0,))), True)
        self.assertIs(is_walk(STREET_WARD, ((0,),), (0, (1,))), False)

    def test_the_empty_run(self):
        ward = Ward(HALL, FACES, PLAIN)
        self.assertIs(is_walk(ward, (), (1, ())), True)
        for walk in ((0, ()), (2, ()), (True, ()), (1, (-1,)), (1, []), (1,), [1, ()], (-1, ())):
            self.assertIs(is_walk(ward, (), walk), False, walk)

    def test_any_value(self):
        for ward, run in wards_and_runs(12, 42, 3):
            walks = plain_walks(ward, run)
            for thing in wild_values():
                self.assertIs(is_walk(ward, run, thing), is_among(thing, walks), thing)
            for walk in list(walks)[:4]:
                for thing in variants(walk):
                    found = calls_leave_alone(self, lambda told: is_walk(ward, run, told), thing)
                    self.assertIs(found, is_among(thing, walks), thing)

    def test_all_walks(self):
        for ward, run in wards_and_runs(60, 43, 3):
            walks = plain_walks(ward, run)
            for walk in walks:
                self.assertIs(is_walk(ward, run, walk), True)
            for standing in range(len(ward.book)):
                for moves in itertools.product(range(-1, len(ward.book.moves)), repeat=min(2, len(run))):
                    thing = (standing, moves)
                    self.assertIs(is_walk(ward, run, thing), thing in walks)


class Making(unittest.TestCase):
    def test_examples(self):
        self.assertIs(do_make(STREET_WARD, RUN, WALKS), True)
        self.assertIs(do_make(thing=WALKS[::-1], run=RUN, ward=STREET_WARD), True)
        self.assertIs(do_make(STREET_WARD, RUN, WALKS + WALKS[:1]), True)
        for at in range(3):
            self.assertIs(do_make(STREET_WARD, RUN, WALKS[:at] + WALKS[at + 1 :]), False)
            self.assertIs(do_make(STREET_WARD, RUN, WALKS[:at] + (WALKS[at],) * 2 + WALKS[at + 1 :]), True)
        self.assertIs(do_make(STREET_WARD, RUN, ()), False)
        self.assertIs(do_make(STREET_WARD, RUN, WALKS + ((0, (1, 1)),)), False)
        self.assertIs(do_make(STREET_WARD, RUN, list(WALKS)), False)

    def test_the_empty_run(self):
        self.assertIs(do_make(WARD, (), ((1, ()),)), True)
        self.assertIs(do_make(WARD, (), ((1, ()), (1, ()))), True)
        self.assertIs(do_make(WARD, (), ()), False)
        ward = Ward(Book((0, -1, 2), (), (0, 2)), FACES, PLAIN)
        self.assertIs(do_make(ward, (), ((0, ()),)), False)
        self.assertIs(do_make(ward, (), ((2, ()), (0, ()))), True)
        self.assertIs(do_make(ward, (), ((2, ()), (1, ()), (0, ()))), False)

    def test_any_value(self):
        for ward, run in wards_and_runs(8, 44, 2):
            walks = plain_walks(ward, run)
            steps = set(plain_steps(ward, run))
            rights = {exact(walk): passed for walk, passed in walks.items()}
            for thing in [*wild_values(), *variants(tuple(sorted(walks))[:4])]:
                right = type(thing) is tuple and all(exact(walk) in rights for walk in thing)
                right = right and set().union(*[rights[exact(walk)] for walk in thing]) == steps
                found = calls_leave_alone(self, lambda told: do_make(ward, run, told), thing)
                self.assertIs(found, right, thing)

    def test_some_crowds(self):
        rng = random.Random(45)
        for ward, run in wards_and_runs(60, 45, 3):
            walks = plain_walks(ward, run)
            steps = set(plain_steps(ward, run))
            self.assertIs(do_make(ward, run, tuple(walks)), True)
            for _ in range(8):
                people = tuple(rng.choice(list(walks)) for _ in range(rng.randint(1, 4)))
                made = set().union(*[walks[walk] for walk in people]) == steps
                self.assertIs(do_make(ward, run, people), made)


class Apart(unittest.TestCase):
    def test_examples(self):
        self.assertIs(are_apart(STREET_WARD, RUN, (0, 0, 1), (1, 0, 1)), True)
        self.assertIs(are_apart(STREET_WARD, RUN, (0, 0, 0), (1, 0, 1)), False)
        self.assertIs(are_apart(further=(0, 0, 0), step=(1, 1, -1), run=RUN, ward=STREET_WARD), True)

    def test_a_step_and_itself(self):
        for ward, run in wards_and_runs(20, 46):
            for step in steps_of(ward, run):
                self.assertIs(are_apart(ward, run, step, step), False)

    def test_the_empty_run(self):
        ward = Ward(Book((0, -1, 2), (), (0, 2)), FACES, PLAIN)
        self.assertIs(are_apart(ward, (), (0, 0, -1), (0, 2, -1)), True)
        self.assertIs(are_apart(ward, (), (0, 0, -1), (0, 0, -1)), False)

    def test_some_runs(self):
        for ward, run in wards_and_runs(100, 47):
            walks = plain_walks(ward, run)
            for step, further in itertools.product(steps_of(ward, run), repeat=2):
                apart = not any(step in passed and further in passed for passed in walks.values())
                self.assertIs(are_apart(ward, run, step, further), apart, (run, step, further))

    def test_walks_share_steps(self):
        for run, _ in plain_runs(STREET_WARD, 3):
            steps = steps_of(STREET_WARD, run)
            walks = plain_walks(STREET_WARD, run)
            for step, further in itertools.combinations(steps, 2):
                apart = not any({step, further} <= passed for passed in walks.values())
                self.assertIs(are_apart(STREET_WARD, run, step, further), apart)
                self.assertIs(are_apart(STREET_WARD, run, further, step), apart)


if __name__ == "__main__":
    unittest.main()

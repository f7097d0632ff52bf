"""Points [10], [11], and walks.py."""

import itertools
import random
import unittest

from housewardens.books import Book
from housewardens.devices import Device
from housewardens.goings import do_make, steps_of
from housewardens.walks import can_make, fewest_people, people_holds, people_paper
from housewardens.wards import Ward, choices_in, tick
from tests.helpers import (
    FACES,
    ONE_FACE,
    PLAIN,
    STREET_WARD,
    WARD,
    calls_leave_alone,
    exact,
    some_run,
    variants,
    wild_values,
)
from tests.plain import BUSY, THREE_FACES, counting_device, do_ascend, plain_fewest
from tests.test_goings import plain_steps, plain_walks, wards_and_runs

RUN = ((0, 1), (0, 1))
PAPER = ("people", ((0, (0, 0)), (0, (0, 1)), (0, (1, -1))), ((1, 0, 0), (1, 0, 1), (1, 1, -1)))
PAIR = Ward(Book((0, -1, 2), (), (0, 2)), FACES, PLAIN)


def is_plain_paper(ward, run, thing, walks=None):
    """Whether any value is a paper of [11], by its words."""
    walks = plain_walks(ward, run) if walks is None else walks
    steps = set(plain_steps(ward, run))
    if type(thing) is not tuple or len(thing) != 3 or type(thing[0]) is not str or thing[0] != "people":
        return False
    if type(thing[1]) is not tuple or type(thing[2]) is not tuple or len(thing[1]) != len(thing[2]):
        return False
    rights = {exact(walk) for walk in walks}
    if not all(exact(walk) in rights for walk in thing[1]) or not do_ascend(thing[1]):
        return False
    rights = {exact(step) for step in steps}
    if not all(exact(step) in rights for step in thing[2]) or not do_ascend(thing[2]):
        return False
    if set().union(*[walks[walk] for walk in thing[1]]) != steps:
        return False
    return not any(len(passed & set(thing[2])) > 1 for passed in walks.values())


class Fewest(unittest.TestCase):
    def test_examples(self):
        self.assertEqual(fewest_people(STREET_WARD, RUN), 3)
        self.assertIs(people_holds(STREET_WARD, RUN, PAPER), True)
        self.assertIs(people_holds(thing=people_paper(run=RUN, ward=STREET_WARD), run=RUN, ward=STREET_WARD), True)

    def test_the_empty_run(self):
        self.assertEqual(fewest_people(PAIR, ()), 2)
        self.assertEqual(people_paper(PAIR, ()), ("people", ((0, ()), (2, ())), ((0, 0, -1), (0, 2, -1))))
        self.assertIs(people_holds(PAIR, (), people_paper(PAIR, ())), True)
        self.assertIs(people_holds(PAIR, (), ("people", ((0, ()),), ((0, 0, -1),))), False)
        self.assertEqual([can_make(PAIR, (), many) for many in range(4)], [False, False, True, True])
        self.assertEqual(fewest_people(STREET_WARD, ()), 1)

    def test_just_so_many(self):
        self.assertEqual([can_make(STREET_WARD, RUN, many) for many in range(6)], [False] * 3 + [True] * 3)
        self.assertIs(can_make(many=2, run=((0, 1),), ward=STREET_WARD), True)

    def test_against_crowds_that_go_along(self):
        for ward, run in wards_and_runs(150, 61):
            fewest = plain_fewest(ward, run)
            self.assertEqual(fewest_people(ward, run), fewest)
            for many in range(7):
                self.assertIs(can_make(ward, run, many), many >= fewest)

    def test_papers_hold(self):
        for ward, run in wards_and_runs(150, 62):
            paper = people_paper(ward, run)
            self.assertEqual(exact(paper), exact(people_paper(ward, run)))
            self.assertEqual(len(paper[1]), fewest_people(ward, run))
            self.assertIs(people_holds(ward, run, paper), True)
            self.assertIs(is_plain_paper(ward, run, paper), True)

    def test_long_runs(self):
        rng = random.Random(63)
        device = counting_device("a", 6, 3)
        for ward, kind in itertools.product((STREET_WARD, Ward(BUSY, THREE_FACES, device)), range(3)):
            for length in (39, 40):
                run = some_run(rng, ward, length)
                if kind == 0:
                    run = self.widest(ward, length)
                paper = people_paper(ward, run)
                self.assertEqual(len(paper[1]), len(paper[2]))
                self.assertEqual(fewest_people(ward, run), len(paper[1]))
                self.assertIs(people_holds(ward, run, paper), True)
                self.assertIs(can_make(ward, run, len(paper[1]) - 1), False)

    def widest(self, ward, length, rng=None):
        """The run in which each open move is made, or mostly so."""
        run, picture = (), (ward.book.first, 0)
        for _ in range(length):
            choices = choices_in(ward, picture)
            choice = max(choices, key=len) if rng is None or rng.random() < 0.7 else rng.choice(choices)
            run += (choice,)
            _, picture = tick(ward, picture, choice)
        return run

    def test_one_by_one(self):
        for ticks in (1, 7, 40):
            self.assertEqual(fewest_people(STREET_WARD, ((0, 1),) * ticks), ticks + 1)
        moves = ((0, 0, "", (0,), (), ()),) + ((0, 1, "", (0,), (), ()),) * 7
        ward = Ward(Book((0, -1), moves, (0,)), ONE_FACE, Device((0,), (), (0,)))
        self.assertEqual(fewest_people(ward, (tuple(range(8)),) * 40), 281)
        self.assertIs(people_holds(ward, (tuple(range(8)),) * 40, people_paper(ward, (tuple(range(8)),) * 40)), True)


    def test_people_who_have_to_be_shared_out(self):
        # Two come from the second standing in any case: so they, not the one from the first, make two of the moves.
        moves = (
            (0, 0, "", (0,), (), ()), (1, 1, "", (0,), (), ()), (1, 1, "a", (0,), (), ()),
            (0, 2, "", (1,), (), ()), (1, 2, "", (1,), (), ()),
            (2, 3, "", (2,), (), ()), (2, 3, "a", (2,), (), ()), (2, 3, "b", (2,), (), ()),
        )  # fmt: skip
        book = Book((0, 1, 2, -1), moves, (0, 1))
        ward = Ward(book, THREE_FACES, Device((0, 1, 2), (), (1, 2, 2)))
        run = ((0, 1, 2), (3, 4), (5, 6, 7))
        self.assertEqual(fewest_people(ward, run), 3)
        self.assertIs(people_holds(ward, run, people_paper(ward, run)), True)
        self.assertIs(is_plain_paper(ward, run, people_paper(ward, run)), True)

    def test_against_rows_of_steps_one_behind_the_other(self):
        rng = random.Random(65)
        for _ in range(150):
            ward = Ward(self.wide_book(rng), THREE_FACES, counting_device("a", 3, 3))
            run = self.widest(ward, rng.randint(1, 25), rng)
            fewest = plain_rows(ward, run)
            self.assertEqual(fewest_people(ward, run), fewest)
            paper = people_paper(ward, run)
            self.assertEqual((len(paper[1]), len(paper[2])), (fewest, fewest))
            self.assertIs(people_holds(ward, run, paper), True)

    def wide_book(self, rng):
        moves = []
        for _ in range(8):
            faces = rng.choice(((0, 1, 2), (0, 1), (1, 2), (0,), (2,)))
            moves.append((rng.randrange(4), rng.randrange(4), rng.choice(("", "", "a", "b")), faces, (), ()))
        return Book((0, 1, 2, -1), tuple(moves), tuple(sorted(rng.sample(range(4), rng.randint(1, 3)))))


def plain_rows(ward, run):
    """The least number of rows of steps one behind the other that have all steps: all less those with one behind."""
    steps = plain_steps(ward, run)
    targets = {step: step[1] if step[2] == -1 else ward.book.moves[step[2]][1] for step in steps}
    behind = {}
    for step in reversed(steps):
        direct = [row for row in steps if row[0] == step[0] + 1 and row[1] == targets[step]]
        behind[step] = set(direct).union(*[behind[row] for row in direct])
    taken = {}

    def find(step, seen):
        for row in behind[step] - seen:
            seen.add(row)
            if row not in taken or find(taken[row], seen):
                taken[row] = step
                return True
        return False

    return len(steps) - sum(find(step, set()) for step in steps)


class Papers(unittest.TestCase):
    def test_papers_of_other_hands(self):
        for ward, run in wards_and_runs(40, 64, 3):
            walks = plain_walks(ward, run)
            steps = plain_steps(ward, run)
            fewest = fewest_people(ward, run)
            if len(walks) > 10 or len(steps) > 10:
                continue
            for people in itertools.combinations(sorted(walks), fewest):
                for apart in itertools.combinations(steps, fewest):
                    thing = ("people", people, apart)
                    self.assertIs(people_holds(ward, run, thing), is_plain_paper(ward, run, thing, walks), thing)

    def test_more_people_than_steps_apart(self):
        further = PAPER[1] + ((0, (0, 0)),)
        self.assertIs(people_holds(STREET_WARD, RUN, ("people", tuple(sorted(further)), PAPER[2])), False)
        self.assertIs(people_holds(STREET_WARD, RUN, ("people", PAPER[1], PAPER[2][:2])), False)
        self.assertIs(do_make(STREET_WARD, RUN, PAPER[1]), True)
        self.assertIs(people_holds(STREET_WARD, RUN, ("people", PAPER[1][::-1], PAPER[2])), False)
        self.assertIs(people_holds(STREET_WARD, RUN, ("people", PAPER[1], PAPER[2][::-1])), False)
        together = ("people", PAPER[1], ((0, 0, 0), (1, 0, 0), (1, 0, 1)))
        self.assertIs(people_holds(STREET_WARD, RUN, together), False)
        self.assertIs(people_holds(STREET_WARD, ((0, 1),), PAPER), False)

    def test_any_value(self):
        longer = ((0, 1, 2), (1, 2, 3))
        for ward, run in ((STREET_WARD, RUN), (PAIR, ()), (PAIR, ((), ())), (WARD, longer)):
            walks = plain_walks(ward, run)
            paper = people_paper(ward, run)
            for thing in [*wild_values(), *variants(paper)]:
                found = calls_leave_alone(self, lambda value: people_holds(ward, run, value), thing)
                self.assertIs(found, is_plain_paper(ward, run, thing, walks), thing)

    def test_steps_are_those_of_the_run(self):
        self.assertEqual(steps_of(STREET_WARD, RUN), plain_steps(STREET_WARD, RUN))
        for step in ((1, 0, 2), (2, 0, 0), (0, 1, -1), (-1, 0, 0), (1, True, -1), (1, 1, -2)):
            thing = ("people", PAPER[1], tuple(sorted(PAPER[2][:2] + (step,))))
            self.assertIs(people_holds(STREET_WARD, RUN, thing), False)


if __name__ == "__main__":
    unittest.main()

"""Point [13], and enough.py."""

import itertools
import unittest

from housewardens.books import Book
from housewardens.crowds import crowds_met
from housewardens.enough import enough, fewest_for, judge_many, many_holds, run_for
from housewardens.errors import TooMany
from housewardens.wards import Ward, pictures_of
from tests.helpers import (
    FACES,
    HUGE,
    ONE_FACE,
    PLAIN,
    STREET,
    STREET_WARD,
    WARD,
    calls_leave_alone,
    error_of,
    exact,
    plain_pictures,
    plain_runs,
    plain_wheres,
    some_wards,
    subsets,
    variants,
    wild_values,
)
from tests.plain import (
    BUSY,
    THREE_FACES,
    counting_device,
    do_ascend,
    plain_crowds_met,
    plain_first_crowds,
    plain_goings,
    plain_pairs_along,
    where_of,
)

COUNT = Ward(STREET, ONE_FACE, counting_device("x", 4))
PAIR = Ward(Book((0, -1, 2), (), (0, 2)), FACES, PLAIN)


def pictures_met(ward, many):
    return {(where_of(crowd), state) for crowd, state in plain_crowds_met(ward, many)}


def all_pictures(ward):
    return [(where, state) for where in plain_wheres(ward.book) for state in range(len(ward.device))]


def all_crowds(ward, many):
    rows = itertools.product(range(many + 1), repeat=len(ward.book))
    return [row for row in rows if many and sum(row) == many]


def is_plain_paper(ward, many, picture, thing, runs):
    """Whether any value is a paper of [13]; runs are some runs, exactly told."""
    if type(thing) is not tuple or len(thing) != 2 or type(thing[0]) is not str:
        return False
    if thing[0] == "run":
        run = runs.get(exact(thing[1]))
        pairs = () if run is None else plain_pairs_along(ward, run, many)
        return any((where_of(crowd), state) == picture for crowd, state in pairs)
    if thing[0] != "closed" or type(thing[1]) is not tuple:
        return False
    pairs = {exact((crowd, state)) for crowd in all_crowds(ward, many) for state in range(len(ward.device))}
    if not all(exact(pair) in pairs for pair in thing[1]) or not do_ascend(thing[1]):
        return False
    if any((where_of(crowd), state) == picture for crowd, state in thing[1]):
        return False
    if not all((crowd, 0) in thing[1] for crowd in plain_first_crowds(ward, many)):
        return False
    return all(further in thing[1] for pair in thing[1] for _, further in plain_goings(ward, pair))


class Runs(unittest.TestCase):
    def test_examples(self):
        self.assertEqual(run_for(STREET_WARD, 2, ((0, 1), 0)), ((0, 1),))
        self.assertIsNone(run_for(STREET_WARD, 1, ((0, 1), 0)))
        self.assertEqual(run_for(picture=((0, 1), 3), many=4, ward=COUNT), ((0, 1),) * 3)
        self.assertIsNone(run_for(COUNT, 3, ((0, 1), 3)))

    def test_first_runs(self):
        for ward in [STREET_WARD, COUNT, WARD, PAIR, *some_wards(25, 81)]:
            rows = list(plain_runs(ward, 2))
            for many, picture in itertools.product(range(4), all_pictures(ward)):
                found = run_for(ward, many, picture)
                if found is None:
                    self.assertNotIn(picture, pictures_met(ward, many))
                    continue
                first = [run for run, last in rows if last == picture and plain_pairs_along(ward, run, many)]
                self.assertEqual([found] if len(found) <= 2 else [], first[:1])
                self.assertTrue(plain_pairs_along(ward, found, many))

    def test_crowds_that_begin_nearer_than_others(self):
        # Who begins in the second standing has to come to the first one before going out of it.
        ways = ((0, 0, ""), (0, 2, "x"), (1, 1, ""), (1, 3, ""), (3, 0, ""))
        moves = tuple((*way, (0,), (), ()) for way in ways)
        ward = Ward(Book((0, 1, -1, 2), moves, (0, 1)), ONE_FACE, counting_device("x", 3))
        self.assertEqual(run_for(ward, 3, ((1, 2), 2)), ((0, 1, 2), (1, 2)))
        for picture in (((2,), 2), ((1, 2), 2), ((0, 1, 2), 1), ((2,), 1)):
            for many in (2, 3, 4):
                found = run_for(ward, many, picture)
                rows = [run for run, last in plain_runs(ward, 3) if last == picture]
                rows = [run for run in rows if plain_pairs_along(ward, run, many)]
                self.assertEqual([] if found is None else [found], rows[:1])

    def test_the_first_picture(self):
        for ward in (STREET_WARD, WARD, PAIR):
            first = (ward.book.first, 0)
            self.assertEqual(run_for(ward, 2, first), ())
            self.assertIsNone(run_for(ward, 0, first))
        self.assertIsNone(run_for(PAIR, 1, ((0, 2), 0)))


class Judging(unittest.TestCase):
    def test_examples(self):
        self.assertEqual(judge_many(STREET_WARD, 1, ((0, 1), 0)), ("closed", (((0, 1), 0), ((1, 0), 0))))
        self.assertEqual(judge_many(STREET_WARD, 0, ((0, 1), 0)), ("closed", ()))
        self.assertIs(many_holds(STREET_WARD, 0, ((0,), 0), ("closed", ())), True)
        self.assertIs(many_holds(STREET_WARD, 0, ((0,), 0), ("run", ())), False)

    def test_just_one_kind_of_paper(self):
        for ward in [STREET_WARD, COUNT, WARD, PAIR, *some_wards(25, 82)]:
            for many, picture in itertools.product(range(4), all_pictures(ward)):
                paper = judge_many(ward, many, picture)
                self.assertIs(many_holds(ward, many, picture, paper), True)
                self.assertEqual(paper[0], "run" if picture in pictures_met(ward, many) else "closed")
                runs = {exact(paper[1]): paper[1]} if paper[0] == "run" else {}
                self.assertIs(is_plain_paper(ward, many, picture, paper, runs), True)
                self.assertEqual(exact(paper), exact(judge_many(picture=picture, many=many, ward=ward, most=1500)))

    def test_too_many(self):
        for ward in [STREET_WARD, COUNT, *some_wards(15, 83)]:
            picture = (ward.book.first, 0)
            many = len(plain_crowds_met(ward, 3))
            judge_many(ward, 3, picture, most=many)
            for most in {many - 1, 0} if many else ():
                error = error_of(judge_many, ward, 3, picture, most=most)
                self.assertIs(type(error), TooMany)
                self.assertEqual(error.most, most)
        self.assertEqual(judge_many(STREET_WARD, 0, ((0,), 0), most=0), ("closed", ()))

    def test_each_closed_table_and_no_other(self):
        for many in (1, 2):
            pairs = [(crowd, state) for crowd in all_crowds(STREET_WARD, many) for state in (0,)]
            for rows in subsets(pairs):
                for picture in all_pictures(STREET_WARD):
                    thing = ("closed", rows)
                    right = is_plain_paper(STREET_WARD, many, picture, thing, {})
                    self.assertIs(many_holds(STREET_WARD, many, picture, thing), right)

    def test_more_pairs_than_are_met(self):
        self.assertIs(many_holds(COUNT, 1, ((0, 1), 0), judge_many(COUNT, 1, ((0, 1), 0))), True)
        rows = tuple((crowd, state) for crowd in ((0, 1), (1, 0)) for state in range(4))
        self.assertGreater(len(rows), len(judge_many(COUNT, 1, ((0, 1), 0))[1]))
        self.assertIs(many_holds(COUNT, 1, ((0, 1), 0), ("closed", rows)), True)
        self.assertIs(many_holds(COUNT, 1, ((1,), 1), ("closed", rows)), False)

    def test_pairs_just_outside_of_what_is_let(self):
        rows = judge_many(STREET_WARD, 1, ((0, 1), 0))[1]
        for row in (((0, 1), -1), ((0, 1), 1), ((0, 2), 0), ((-1, 2), 0), ((2, -1), 0), ((0, 0), 0), ((1,), 0), ((0, 0, 1), 0)):
            thing = ("closed", tuple(sorted({*rows, row})))
            self.assertIs(many_holds(STREET_WARD, 1, ((0, 1), 0), thing), False, row)
        for rows in ((((0, 0), 0),), (((0, 1), 0),), (((), 0),), ((), 0)):
            self.assertIs(many_holds(STREET_WARD, 0, ((0, 1), 0), ("closed", rows)), False)

    def test_another_run(self):
        for run in (((0, 1),), ((0,), (0, 1)), ((0, 1), (0,))):
            self.assertIs(many_holds(STREET_WARD, 2, ((0, 1), 0), ("run", run)), True)
            self.assertIs(many_holds(STREET_WARD, 1, ((0, 1), 0), ("run", run)), False)
            self.assertIs(many_holds(thing=("run", run), picture=((1,), 0), many=2, ward=STREET_WARD), False)
        self.assertIs(many_holds(STREET_WARD, 2, ((0, 1), 0), ("run", ((0, 1), (0, 1)))), False)
        self.assertIs(many_holds(STREET_WARD, 3, ((0, 1), 0), ("run", ((0, 1), (0, 1)))), True)

    def test_any_value(self):
        cases = ((STREET_WARD, 1, ((0, 1), 0)), (STREET_WARD, 2, ((0, 1), 0)), (WARD, 1, ((0, 1), 1)), (PAIR, 0, ((0, 2), 0)))
        for ward, many, picture in cases:
            runs = {exact(run): run for run, _ in plain_runs(ward, 3)}
            for thing in [*wild_values(), *variants(judge_many(ward, many, picture))]:
                found = calls_leave_alone(self, lambda value: many_holds(ward, many, picture, value), thing)
                self.assertIs(found, is_plain_paper(ward, many, picture, thing, runs), thing)


class Enough(unittest.TestCase):
    def test_examples(self):
        self.assertEqual(enough(STREET_WARD), 2)
        self.assertEqual(fewest_for(COUNT, ((0, 1), 3)), 4)
        self.assertEqual(enough(ward=COUNT), 4)
        self.assertIsNone(fewest_for(picture=((0,), 1), ward=COUNT))
        self.assertEqual(fewest_for(PAIR, ((0, 2), 0)), 2)
        self.assertEqual(enough(PAIR), 2)

    def test_against_crowds_met(self):
        for ward in [STREET_WARD, WARD, PAIR, *some_wards(40, 84)]:
            met = [pictures_met(ward, many) for many in range(6)]
            pictures = set(plain_pictures(ward))
            if met[-1] != pictures:
                continue
            self.assertEqual(enough(ward), [found == pictures for found in met].index(True))
            for picture in all_pictures(ward):
                rows = [many for many in range(6) if picture in met[many]]
                self.assertEqual(fewest_for(ward, picture), rows[0] if rows else None)

    def test_more_people_can_do_more(self):
        for ward in some_wards(20, 85):
            for many in range(4):
                self.assertLessEqual(pictures_met(ward, many), pictures_met(ward, many + 1))

    def test_a_large_ward(self):
        ward = Ward(BUSY, THREE_FACES, counting_device("a", 6, 3))
        pictures = pictures_of(ward, most=HUGE)
        for picture in pictures[::7]:
            paper = judge_many(ward, 6, picture)
            self.assertIs(many_holds(ward, 6, picture, paper), True)
            paper = judge_many(ward, 2, picture)
            self.assertIs(many_holds(ward, 2, picture, paper), True)
        self.assertEqual({(where_of(crowd), state) for crowd, state in crowds_met(ward, enough(ward))}, set(pictures))


if __name__ == "__main__":
    unittest.main()

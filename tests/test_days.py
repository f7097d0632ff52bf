"""Point [39], and days.py."""

import itertools
import random
import unittest

from housewardens.books import Book
from housewardens.days import crowds_of_log, day_holds, judge_day, people_of_log, run_of_log
from housewardens.devices import Device
from housewardens.logs import can_come, logs_that_come
from housewardens.lots import lot_behind
from housewardens.walks import can_make, fewest_people
from housewardens.wards import Ward, along, is_run, log_of
from tests.helpers import (
    HALL,
    HUGE,
    ONE_FACE,
    STREET,
    STREET_WARD,
    WARD,
    calls_leave_alone,
    plain_led,
    plain_wheres,
    some_run,
    some_wards,
    variants,
    wild_values,
)
from tests.plain import (
    BUSY,
    CLOCKED,
    DOOR,
    THREE_FACES,
    counting_device,
    do_ascend,
    is_number,
    plain_first_crowds,
    plain_goings,
    plain_pairs_along,
    plain_runs_of,
    where_of,
)
from tests.plain_sights import is_plain_run

COUNTING = Ward(STREET, ONE_FACE, counting_device("x", 4))


def days(many, seed, longest=3):
    """Small wards with logs, most of which can come."""
    rng = random.Random(seed)
    wards = [WARD, STREET_WARD, COUNTING]
    wards += [Ward(book, WARD.faces, counting_device("a", 2, 2)) for book in (CLOCKED, DOOR)]
    for ward in wards + some_wards(many, seed):
        for _ in range(2):
            yield ward, log_of(ward, some_run(rng, ward, rng.randint(0, longest)))
        yield ward, tuple(rng.choice(("", "a", "b", "x", "ab")) for _ in range(rng.randint(1, longest)))


def plain_steps(ward, crowd, state, heard):
    """The crowds to which ticks lead at which just this is heard."""
    found = set()
    for choice, (further, _) in plain_goings(ward, (crowd, state)):
        if "".join(sorted({letter for move in choice for letter in ward.book.moves[move][2]})) == heard:
            found.add(further)
    return found


def plain_crowds_along(ward, log, many):
    """The crowds behind all beginnings of a log."""
    rows, state = [set(plain_first_crowds(ward, many))], 0
    for heard in log:
        rows.append({further for crowd in rows[-1] for further in plain_steps(ward, crowd, state, heard)})
        state = plain_led(ward.device, state, heard)
    return [tuple(sorted(row)) for row in rows]


def is_plain_day(ward, log, many, thing):
    """Whether any value is a paper of [39]."""
    if type(thing) is not tuple or len(thing) != 2 or type(thing[0]) is not str or type(thing[1]) is not tuple:
        return False
    if thing[0] == "run":
        if not is_plain_run(ward, thing[1]) or log_of(ward, thing[1]) != log:
            return False
        return bool(plain_pairs_along(ward, thing[1], many))
    if thing[0] != "closed" or len(thing[1]) != len(log) + 1 or thing[1][-1] != ():
        return False
    for row in thing[1]:
        if type(row) is not tuple:
            return False
        for crowd in row:
            if type(crowd) is not tuple or len(crowd) != len(ward.book.rooms) or many == 0:
                return False
            if not all(is_number(part, 0) for part in crowd) or sum(crowd) != many:
                return False
        if not do_ascend(row):
            return False
    if not set(plain_first_crowds(ward, many)) <= set(thing[1][0]):
        return False
    state = 0
    for at, heard in enumerate(log):
        for crowd in thing[1][at]:
            if not plain_steps(ward, crowd, state, heard) <= set(thing[1][at + 1]):
                return False
        state = plain_led(ward.device, state, heard)
    return True


class Days(unittest.TestCase):
    def test_examples(self):
        self.assertEqual(people_of_log(WARD, ("a",)), 1)
        self.assertEqual(run_of_log(WARD, ("a",), (0,)), ((0,),))
        self.assertEqual(run_of_log(where=(0, 1), log=("a",), ward=WARD), ((0, 1),))
        self.assertEqual(judge_day(WARD, ("a",), 0), ("closed", ((), ())))
        self.assertIs(day_holds(WARD, ("a",), 0, ("closed", ((), ()))), True)

    def test_runs_of_logs_against_all_runs(self):
        found = {True: 0, False: 0}
        for ward, log in days(40, 371):
            rows = plain_runs_of(ward, len(log))
            for where in plain_wheres(ward.book):
                rights = sorted(run for run, other, (last, _) in rows if other == log and last == where)
                run = run_of_log(ward, log, where)
                self.assertEqual(run, rights[0] if rights else None)
                found[run is None] += 1
                if run is not None:
                    self.assertIs(is_run(ward, run), True)
                    self.assertEqual(log_of(ward, run), log)
                    self.assertEqual(along(ward, run)[-1][0], where)
            lot = tuple(where for where in plain_wheres(ward.book) if run_of_log(ward, log, where) is not None)
            self.assertEqual(tuple(sorted(lot)), lot_behind(ward, log))
        self.assertGreater(min(found.values()), 30)

    def test_the_empty_log(self):
        self.assertEqual(run_of_log(WARD, (), (1,)), ())
        self.assertIsNone(run_of_log(WARD, (), (0, 1)))
        self.assertEqual(crowds_of_log(WARD, (), 2), ((0, 2, 0),))
        self.assertEqual(crowds_of_log(WARD, (), 0), ())
        self.assertEqual(people_of_log(WARD, ()), 1)
        self.assertEqual(judge_day(WARD, (), 1), ("run", ()))
        self.assertEqual(judge_day(WARD, (), 0), ("closed", ((),)))
        both = Ward(Book((0, 1), (), (0, 1)), ONE_FACE, Device((0,), (), (0,)))
        self.assertEqual(people_of_log(both, ()), 2)
        self.assertEqual(people_of_log(both, ("",)), 2)
        self.assertEqual(judge_day(both, (), 1), ("closed", ((),)))
        self.assertEqual(crowds_of_log(both, (), 3), ((1, 2), (2, 1)))

    def test_crowds_against_their_ticks(self):
        for ward, log in days(30, 372):
            for many in (0, 1, 2, 3):
                rows = plain_crowds_along(ward, log, many)
                self.assertEqual(crowds_of_log(ward, log, many), rows[-1])
                self.assertEqual(crowds_of_log(many=many, log=log, ward=ward), rows[-1])

    def test_crowds_along_all_runs_of_a_log(self):
        for ward, log in days(20, 373, 2):
            rows = [run for run, other, _ in plain_runs_of(ward, len(log)) if other == log]
            for many in (1, 2, 3):
                right = {crowd for run in rows for crowd, _ in plain_pairs_along(ward, run, many)}
                self.assertEqual(crowds_of_log(ward, log, many), tuple(sorted(right)))

    def test_people(self):
        for ward, log in days(30, 374):
            rows = [many for many in range(5) if plain_crowds_along(ward, log, many)[-1]]
            found = people_of_log(ward, log)
            if rows:
                self.assertEqual(found, rows[0])
                self.assertEqual(rows, list(range(rows[0], 5)))
                self.assertIsNone(people_of_log(ward, log, greatest=found - 1))
                self.assertEqual(people_of_log(greatest=found, log=log, ward=ward), found)
            elif can_come(ward, log):
                self.assertIn(found, (5, 6, None))
            else:
                self.assertIsNone(found)

    def test_people_are_the_fewest_of_some_run(self):
        for ward, log in days(20, 375, 2):
            rows = [fewest_people(ward, run) for run, other, _ in plain_runs_of(ward, len(log)) if other == log]
            self.assertEqual(people_of_log(ward, log), min(rows) if rows and min(rows) <= 6 else None)

    def test_more_than_six_are_needed(self):
        # Whoever went does not come back, and each tick somebody goes.
        for length in range(8):
            right = max(length, 1) if length <= 6 else None
            self.assertEqual(people_of_log(STREET_WARD, ("x",) * length), right)
            self.assertEqual(people_of_log(STREET_WARD, ("x",) * length, greatest=2), right if length <= 2 else None)
        self.assertIsNone(people_of_log(STREET_WARD, (), greatest=0))

    def test_logs_that_cannot_come(self):
        for log in (("z",), ("a", "a"), ("", "b", ""), ("a", "a", "a")):
            self.assertIsNone(people_of_log(WARD, log))
            self.assertEqual(crowds_of_log(WARD, log, 3), ())
            self.assertIsNone(run_of_log(WARD, log, (1,)))
            for many in range(4):
                paper = judge_day(WARD, log, many)
                self.assertEqual(paper[0], "closed")
                self.assertEqual(len(paper[1]), len(log) + 1)
                self.assertIs(day_holds(WARD, log, many, paper), True)

    def test_papers(self):
        found = {"run": 0, "closed": 0}
        for ward, log in days(30, 376):
            for many in (0, 1, 2, 3):
                paper = judge_day(ward, log, many)
                self.assertEqual(paper, judge_day(many=many, log=log, ward=ward))
                found[paper[0]] += 1
                self.assertEqual(paper[0] == "run", bool(plain_crowds_along(ward, log, many)[-1]))
                self.assertIs(day_holds(ward, log, many, paper), True)
                self.assertIs(is_plain_day(ward, log, many, paper), True)
                if paper[0] == "run":
                    self.assertIs(can_make(ward, paper[1], many), True)
        self.assertGreater(min(found.values()), 50)

    def test_long_logs(self):
        ward = Ward(BUSY, THREE_FACES, counting_device("a", 6, 3))
        log = log_of(ward, some_run(random.Random(377), ward, 20))
        many = people_of_log(ward, log)
        paper = judge_day(ward, log, 6)
        self.assertIs(day_holds(ward, log, 6, paper), True)
        self.assertEqual(many is None, paper[0] == "closed")
        run = run_of_log(ward, log, lot_behind(ward, log)[-1])
        self.assertEqual(log_of(ward, run), log)


class Papers(unittest.TestCase):
    def check(self, ward, log, many, thing):
        found = day_holds(ward, log, many, thing)
        self.assertIs(found, is_plain_day(ward, log, many, thing), thing)
        return found

    def test_all_runs(self):
        for ward, log in days(12, 378, 2):
            for run, other, _ in plain_runs_of(ward, len(log))[:40]:
                for many in (0, 1, 2, 3):
                    self.check(ward, log, many, ("run", run))
                    self.check(ward, other, many, ("run", run))

    def test_more_crowds_than_come(self):
        rng = random.Random(379)
        found = [0, 0]
        for ward, log in days(40, 380):
            for many in (1, 2):
                known = [crowd for crowd in itertools.product(range(many + 1), repeat=len(ward.book)) if sum(crowd) == many]
                rows = [set(row) for row in plain_crowds_along(ward, log, many)]
                state = 0
                for at, heard in enumerate(log):
                    rows[at].add(rng.choice(known))
                    if rng.random() < 0.7:
                        rows[at + 1] |= {new for crowd in rows[at] for new in plain_steps(ward, crowd, state, heard)}
                    state = plain_led(ward.device, state, heard)
                found[self.check(ward, log, many, ("closed", tuple(tuple(sorted(row)) for row in rows)))] += 1
                wide = tuple(tuple(known) for _ in log) + ((),)
                found[self.check(ward, log, many, ("closed", wide))] += 1
        self.assertGreater(min(found), 30)

    def test_parts_of_papers(self):
        for ward, log in [(WARD, ("a", "a")), (COUNTING, ("x", "x")), *days(15, 381)]:
            for many in (1, 2):
                word, rows = judge_day(ward, log, many)
                for at in range(len(rows)):
                    self.check(ward, log, many, (word, rows[:at] + rows[at + 1 :]))
                    self.check(ward, log, many, (word, rows[: at + 1] + rows[at:]))
                    self.check(ward, log, many, (word, rows[:at] + (rows[at][1:],) + rows[at + 1 :]))
                    self.check(ward, log, many, (word, rows[:at] + (rows[at][::-1],) + rows[at + 1 :]))
                for other in ("run", "closed", "never", 0):
                    self.check(ward, log, many, (other, rows))
                for further in (0, 1, 2, 3):
                    self.check(ward, log, further, (word, rows))
                    self.check(ward, log[:-1], further, (word, rows))

    def test_any_value(self):
        parts = [None, True, False, 0, 1, -1, "", "a", (), [], (0,), (1, 0), ((1, 0),)]
        for ward, log, many in (
            (STREET_WARD, ("x", "x"), 1),
            (STREET_WARD, ("x", ""), 2),
            (STREET_WARD, ("x",), 0),
            (WARD, ("a", "a"), 1),
        ):
            paper = judge_day(ward, log, many)
            for thing in [*wild_values(), *variants(paper, parts)]:
                found = calls_leave_alone(self, lambda value: day_holds(ward, log, many, value), thing)
                self.assertIs(found, is_plain_day(ward, log, many, thing), thing)

    def test_crowds_just_outside(self):
        # One person at the most hears x twice: the last crowds are none.
        right = (((1, 0),), ((0, 1),), ())
        self.assertIs(day_holds(thing=("closed", right), many=1, log=("x", "x"), ward=STREET_WARD), True)
        for crowd in ((1, 0, 0), (1,), (2, -1), (1, 1), (0, 0), (True, 0), (1, False), [1, 0], (HUGE, 1 - HUGE), 1, None):
            thing = (right[0], tuple(sorted((crowd, (0, 1)), key=repr)), ())
            self.assertIs(day_holds(STREET_WARD, ("x", "x"), 1, ("closed", thing)), False, crowd)
            thing = (right[0], ((0, 1), crowd), ())
            self.assertIs(day_holds(STREET_WARD, ("x", "x"), 1, ("closed", thing)), False, crowd)
        self.assertIs(day_holds(STREET_WARD, ("x", "x"), 0, ("closed", (((0, 0),), (), ()))), False)
        self.assertIs(day_holds(STREET_WARD, ("x", "x"), 0, ("closed", ((), (), ()))), True)
        self.assertIs(day_holds(STREET_WARD, ("x", "x"), 1, ("closed", (((0, 1), (1, 0)), ((0, 1),), ()))), True)

    def test_all_logs_of_a_length(self):
        for ward in (WARD, STREET_WARD, Ward(HALL, WARD.faces, counting_device("a", 3, 2))):
            for length in range(4):
                for log in logs_that_come(ward, length):
                    self.assertTrue(1 <= people_of_log(ward, log) <= length + 1)
                    for crowd in crowds_of_log(ward, log, 4):
                        self.assertIn(where_of(crowd), lot_behind(ward, log))


if __name__ == "__main__":
    unittest.main()

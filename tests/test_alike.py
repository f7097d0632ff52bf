"""Points [16], [17], and alike.py."""

import itertools
import random
import unittest

from housewardens.alike import (
    alike_holds,
    are_alike,
    are_alike_beside,
    judge_alike,
    least_device,
    log_beside,
    parting_log,
)
from housewardens.devices import Device
from housewardens.errors import TooMany
from housewardens.logs import can_come
from housewardens.wards import Ward
from tests.helpers import (
    FACES,
    HUGE,
    ONE_FACE,
    PLAIN,
    STREET,
    STREET_WARD,
    WARD,
    calls_leave_alone,
    error_of,
    exact,
    plain_led,
    plain_wheres,
    some_device,
    some_wards,
    subsets,
    variants,
    wild_values,
)
from tests.plain import (
    BUSY,
    THREE_FACES,
    counting_device,
    do_ascend,
    is_number,
    is_plain_lot,
    plain_answers,
    plain_face,
    plain_runs_of,
)

LETTERS = "abcdefghijklmnopqrstuvwxyz"
BOTH = Device((0, 1, 1), ((0, "a", 1), (0, "ab", 2)), (0, 1, 2))
LATE = Device((0, 0, 1), ((0, "a", 1), (1, "", 2)), (0, 1, 2))
HEARD = ["".join(row) for many in range(3) for row in itertools.combinations("abc", many)] + ["abc", "d", "z"]


def first_strings(many):
    """The first ascending strings of letters, as strings are ordered."""
    rows = [""]
    while len(rows) < many:
        last = rows[-1]
        if last.endswith("z"):
            last = last[:-1]
            rows.append(last[:-1] + LETTERS[LETTERS.index(last[-1]) + 1])
        else:
            rows.append(last + LETTERS[LETTERS.index(last[-1]) + 1 if last else 0])
    return rows


def some_devices(rng, states=3, faces=2):
    """Two small devices that are perhaps alike."""
    one = some_device(rng, FACES[:faces], states)
    if rng.random() < 0.5:
        return one, some_device(rng, FACES[:faces], states)
    # The same one with its states in another order, with some steps told twice over.
    order = list(range(len(one)))
    rng.shuffle(order)
    order = [0, *[state for state in order if state]]
    place = {state: number for number, state in enumerate(order)}
    keys = {(state, heard) for state, heard, _ in one.steps} | {(rng.randrange(len(one)), rng.choice(HEARD))}
    steps = sorted((place[state], heard, place[plain_led(one, state, heard)]) for state, heard in keys)
    shown = tuple(one.shown[state] for state in order)
    return one, Device(shown, tuple(steps), tuple(place[one.others[state]] for state in order))


def all_devices(states, strings, faces):
    """All devices with so many states that hear some strings."""
    keys = list(itertools.product(range(states), strings))
    for shown in itertools.product(range(faces), repeat=states):
        for others in itertools.product(range(states), repeat=states):
            for targets in itertools.product([None, *range(states)], repeat=len(keys)):
                rows = [(*key, target) for key, target in zip(keys, targets) if target is not None]
                yield Device(shown, tuple(rows), others)


def plain_alike(one, other, strings):
    """Whether no pair of states that comes shows unlike faces; strings has each one of a step, and another."""
    found, fresh = set(), {(0, 0)}
    while fresh:
        found |= fresh
        fresh = {
            (plain_led(one, state, heard), plain_led(other, further, heard))
            for state, further in fresh
            for heard in strings
        } - found
    return all(one.shown[state] == other.shown[further] for state, further in found)


class Alike(unittest.TestCase):
    def test_examples(self):
        self.assertEqual(parting_log(PLAIN, BOTH), ("ab",))
        self.assertIs(are_alike(PLAIN, BOTH), False)
        self.assertIs(are_alike(other=PLAIN, one=PLAIN), True)
        self.assertEqual(parting_log(other=Device((1,), (), (0,)), one=PLAIN), ())

    def test_strings_that_no_step_names(self):
        one = Device((0, 1), ((0, "", 0), (0, "a", 0)), (1, 1))
        same = Device((0,), (), (0,))
        self.assertEqual(parting_log(one, same), ("ab",))
        for many in range(1, 41):
            one = Device((0, 1), tuple((0, heard, 0) for heard in first_strings(many)), (1, 1))
            self.assertEqual(parting_log(one, same), (first_strings(many + 1)[-1],))
        one = Device((0, 1), tuple((0, heard, 0) for heard in first_strings(40)), (1, 1))
        self.assertEqual(parting_log(one, same), (first_strings(41)[-1],))
        self.assertEqual(parting_log(same, one), (first_strings(41)[-1],))
        self.assertIn("abcdefghijklmnopqrstuvwxz", first_strings(41))
        other = Device((0, 0), tuple((0, heard, 1) for heard in first_strings(39)), (0, 1))
        self.assertEqual(parting_log(one, other), (first_strings(41)[-1],))

    def test_longer_logs(self):
        for many in range(2, 7):
            one = counting_device("c", many)
            other = Device((0,) * (many - 1) + (1,), one.steps, one.others)
            self.assertEqual(parting_log(one, other), ("c",) * (many - 1))
        self.assertEqual(parting_log(Device((0, 0, 1), (), (1, 2, 2)), Device((0,), (), (0,))), ("", ""))

    def test_against_all_short_logs(self):
        rng = random.Random(111)
        for _ in range(150):
            one, other = some_devices(rng)
            found = parting_log(one, other)
            logs = [log for length in range(3) for log in itertools.product(sorted(HEARD), repeat=length)]
            rows = [log for log in logs if plain_face(one, log) != plain_face(other, log)]
            self.assertIs(are_alike(one, other), found is None)
            self.assertIs(plain_alike(one, other, [*HEARD, "q"]), found is None)
            self.assertEqual([found] if found is not None and len(found) <= 2 else [], rows[:1])
            if found is not None:
                self.assertNotEqual(plain_face(one, found), plain_face(other, found))


class Least(unittest.TestCase):
    def test_examples(self):
        self.assertEqual(least_device(BOTH), Device((0, 1), ((0, "a", 1), (0, "ab", 1)), (0, 1)))
        self.assertEqual(least_device(device=PLAIN), PLAIN)

    def test_needless_states_and_steps(self):
        device = Device((0, 1, 1, 0), ((0, "a", 3), (0, "b", 2), (3, "b", 1)), (3, 2, 1, 0))
        self.assertEqual(least_device(device), Device((0, 1), ((0, "b", 1),), (0, 1)))
        self.assertEqual(least_device(Device((2, 2, 2), ((0, "a", 1), (1, "", 2)), (2, 1, 0))), Device((2,), (), (0,)))
        self.assertEqual(least_device(Device((0, 1), ((0, "a", 0), (1, "a", 0)), (0, 0))), Device((0,), (), (0,)))

    def test_others_lead_where_no_step_of_any_state_does(self):
        # "a" is named by a state to which nothing leads alone.
        device = Device((0, 1, 0), ((0, "b", 0), (2, "a", 1)), (1, 0, 0))
        self.assertEqual(least_device(device), Device((0, 1), ((0, "b", 0),), (1, 0)))

    def test_the_order_of_first_logs(self):
        device = Device((0, 1, 2), ((0, "b", 1), (0, "c", 2)), (0, 1, 2))
        self.assertEqual(least_device(device), device)
        device = Device((0, 2, 1), ((0, "b", 2), (0, "c", 1)), (0, 1, 2))
        self.assertEqual(least_device(device), Device((0, 1, 2), ((0, "b", 1), (0, "c", 2)), (0, 1, 2)))
        # The strings that no step names begin with "": so they come ahead of "b".
        device = Device((0, 2, 1), ((0, "b", 1),), (2, 1, 2))
        self.assertEqual(least_device(device), Device((0, 1, 2), ((0, "b", 2),), (1, 1, 2)))

    def test_just_one(self):
        rng = random.Random(112)
        for _ in range(150):
            one, other = some_devices(rng, 4)
            least = least_device(one)
            self.assertEqual(least, least_device(one))
            self.assertEqual(least_device(least), least)
            self.assertIs(are_alike(least, one), True)
            self.assertLessEqual(len(least), len(one))
            self.assertIs(least == least_device(other), are_alike(one, other))
            self.assertTrue(all(target != least.others[state] for state, _, target in least.steps))

    def test_against_all_devices_of_fewer_states(self):
        rng = random.Random(113)
        smaller = {many: list(all_devices(many, ("", "a"), 2)) for many in (1, 2)}
        for _ in range(40):
            states = rng.randint(1, 3)
            steps = tuple((*key, rng.randrange(states)) for key in itertools.product(range(states), ("", "a")))
            steps = tuple(step for step in steps if rng.random() < 0.7)
            one = Device(tuple(rng.randrange(2) for _ in range(states)), steps, (*[rng.randrange(states)] * states,))
            least = least_device(one)
            rows = [many for many in (1, 2) if any(plain_alike(one, some, ("", "a", "b")) for some in smaller[many])]
            self.assertEqual(len(least) if len(least) < 3 else None, rows[0] if rows else None)


def plain_triples(ward, other):
    """All triples that are met, without going on from those with unlike faces."""
    found, fresh = set(), {((ward.book.first,), 0, 0)}
    while fresh:
        found |= fresh
        fresh = {
            (target, plain_led(ward.device, state, heard), plain_led(other, further, heard))
            for lot, state, further in fresh
            if ward.device.shown[state] == other.shown[further]
            for heard, target in plain_answers(ward.book, lot, ward.device.shown[state])
        } - found
    return found


def is_plain_paper(ward, other, thing):
    """Whether any value is a paper of [17], by its words."""
    if type(thing) is not tuple or len(thing) != 2 or type(thing[0]) is not str or type(thing[1]) is not tuple:
        return False
    if thing[0] == "parted":
        log = thing[1]
        if any(type(heard) is not str or sorted(set(heard)) != list(heard) for heard in log):
            return False
        if not all(set(heard) <= set(LETTERS) for heard in log) or not can_come(ward, log):
            return False
        return plain_face(ward.device, log) != plain_face(other, log)
    if thing[0] != "alike":
        return False
    for row in thing[1]:
        if type(row) is not tuple or len(row) != 3 or not is_plain_lot(ward.book, row[0]) or not row[0]:
            return False
        if not is_number(row[1], 0, len(ward.device) - 1) or not is_number(row[2], 0, len(other) - 1):
            return False
        if ward.device.shown[row[1]] != other.shown[row[2]]:
            return False
    if not do_ascend(thing[1]) or ((ward.book.first,), 0, 0) not in thing[1]:
        return False
    return all(
        (target, plain_led(ward.device, state, heard), plain_led(other, further, heard)) in thing[1]
        for lot, state, further in thing[1]
        for heard, target in plain_answers(ward.book, lot, ward.device.shown[state])
    )


def wards_and_devices(many, seed):
    yield WARD, BOTH
    yield WARD, LATE
    yield WARD, PLAIN
    rng = random.Random(seed)
    for ward in some_wards(many, seed):
        yield ward, some_device(rng, ward.faces)
        yield ward, Device(ward.device.shown, ward.device.steps[1:], ward.device.others)


class Beside(unittest.TestCase):
    def test_examples(self):
        self.assertIs(are_alike_beside(WARD, BOTH), True)
        self.assertEqual(log_beside(WARD, LATE), ("a",))
        self.assertIs(are_alike_beside(other=LATE, ward=WARD, most=60), False)
        self.assertIsNone(log_beside(other=BOTH, ward=WARD, most=60))
        self.assertEqual(judge_alike(WARD, LATE), ("parted", ("a",)))
        self.assertEqual(log_beside(WARD, Device((1,), (), (0,))), ())

    def test_against_all_runs(self):
        for ward, other in wards_and_devices(40, 114):
            found = log_beside(ward, other, most=HUGE)
            logs = [log for length in range(4) for log in sorted({row[1] for row in plain_runs_of(ward, length)})]
            rows = [log for log in logs if plain_face(ward.device, log) != plain_face(other, log)]
            self.assertEqual([found] if found is not None and len(found) < 4 else [], rows[:1])
            triples = plain_triples(ward, other)
            unlike = [row for row in triples if ward.device.shown[row[1]] != other.shown[row[2]]]
            self.assertIs(are_alike_beside(ward, other, most=HUGE), not unlike)
            self.assertIs(found is None, not unlike)

    def test_just_one_kind_of_paper(self):
        for ward, other in wards_and_devices(40, 115):
            paper = judge_alike(ward, other, most=HUGE)
            self.assertEqual(paper[0], "parted" if log_beside(ward, other, most=HUGE) is not None else "alike")
            self.assertIs(alike_holds(ward, other, paper), True)
            self.assertIs(is_plain_paper(ward, other, paper), True)
            self.assertEqual(exact(paper), exact(judge_alike(ward=ward, other=other, most=HUGE)))

    def test_it_is_all_one_which_is_asked(self):
        for ward, other in wards_and_devices(40, 116):
            further = Ward(ward.book, ward.faces, other)
            one, two = log_beside(ward, other, most=HUGE), log_beside(further, ward.device, most=HUGE)
            self.assertEqual(one, two)

    def test_too_many(self):
        for ward, other in wards_and_devices(30, 117):
            many = len(plain_triples(ward, other))
            for call in (are_alike_beside, log_beside, judge_alike):
                call(ward, other, most=many)
                for most in {many - 1, 0}:
                    error = error_of(call, ward, other, most=most)
                    self.assertIs(type(error), TooMany)
                    self.assertEqual(error.most, most)
        self.assertIs(type(error_of(log_beside, WARD, BOTH, 60)), TypeError)
        ward = Ward(STREET, FACES, Device((0,) * 61, (), (*range(1, 61), 60)))
        self.assertEqual(error_of(log_beside, ward, Device((0,), (), (0,))).most, 60)

    def test_many_triples(self):
        ward = Ward(BUSY, THREE_FACES, counting_device("a", 6, 3))
        paper = judge_alike(ward, ward.device, most=1000)
        self.assertGreater(len(paper[1]), 20)
        self.assertIs(alike_holds(ward, ward.device, paper), True)


class Papers(unittest.TestCase):
    def test_rows_to_which_no_log_leads(self):
        paper = judge_alike(WARD, BOTH)
        row = (((0,),), 1, 2)
        self.assertNotIn(row, paper[1])
        further = ("alike", tuple(sorted(paper[1] + (row,))))
        self.assertIs(alike_holds(WARD, BOTH, further), True)
        row = (((0,),), 0, 2)
        self.assertIs(alike_holds(WARD, BOTH, ("alike", tuple(sorted(paper[1] + (row,))))), False)
        row = ((), 1, 2)
        self.assertIs(alike_holds(WARD, BOTH, ("alike", tuple(sorted(paper[1] + (row,))))), False)
        for row in ((((0,),), -1, 2), (((0,),), 1, -1), (((0,),), 2, 1), (((0,),), 1, 3), (((0, 3),), 1, 2), (((),), 1, 2)):
            thing = ("alike", tuple(sorted(paper[1] + (row,))))
            self.assertIs(alike_holds(WARD, BOTH, thing), False, row)
            thing = ("alike", tuple(sorted({*paper[1], row, (((0,),), 1, 2), (((0,),), 1, 1)})))
            self.assertIs(alike_holds(WARD, BOTH, thing), False, row)
        for at in range(len(paper[1])):
            thing = ("alike", paper[1][:at] + paper[1][at + 1 :])
            self.assertIs(alike_holds(WARD, BOTH, thing), is_plain_paper(WARD, BOTH, thing))

    def test_other_logs(self):
        self.assertIs(alike_holds(WARD, LATE, ("parted", ("", "a"))), True)
        self.assertIs(alike_holds(WARD, LATE, ("parted", ("a", ""))), False)
        self.assertIs(alike_holds(WARD, LATE, ("parted", ("a", "a"))), False)
        self.assertIs(alike_holds(WARD, LATE, ("parted", ())), False)
        never = Device((1,), (), (0,))
        for log in ((), ("",), ("", "")):
            self.assertIs(alike_holds(WARD, never, ("parted", log)), True)
        self.assertIs(alike_holds(WARD, never, ("parted", ("a",))), False)
        self.assertIs(alike_holds(thing=("parted", ("b",)), other=never, ward=WARD), False)

    def test_each_table_and_no_other(self):
        lots = [lot for lot in subsets(plain_wheres(STREET)) if lot and len(lot) < 3][:4]
        other = Device((0, 0), ((0, "x", 1),), (0, 1))
        rows = [(lot, 0, further) for lot in lots for further in (0, 1)]
        for some in subsets(rows):
            thing = ("alike", some)
            self.assertIs(alike_holds(STREET_WARD, other, thing), is_plain_paper(STREET_WARD, other, thing))

    def test_any_value(self):
        one = Ward(STREET, ONE_FACE, Device((0, 0), ((0, "x", 1),), (0, 1)))
        for ward, other in ((WARD, BOTH), (WARD, LATE), (one, Device((0,), (), (0,)))):
            for thing in [*wild_values(), *variants(judge_alike(ward, other)), *variants(("parted", ("", "a")))]:
                found = calls_leave_alone(self, lambda value: alike_holds(ward, other, value), thing)
                self.assertIs(found, is_plain_paper(ward, other, thing), thing)


if __name__ == "__main__":
    unittest.main()

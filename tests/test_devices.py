"""Point [5] and devices.py."""

import itertools
import random
import unittest

from housewardens.devices import Device, are_faces, silent_ticks
from housewardens.errors import BadDevice
from tests.helpers import (
    FACES,
    HALL,
    PLAIN,
    WARD,
    calls_leave_alone,
    error_of,
    exact,
    plain_led,
    some_device,
    variants,
    wild_values,
)
from tests.test_books import is_plainly_heard, plain_number, plain_numbers


def plain_fault(shown, steps, others):
    """The part of the first error that Device has to raise, or None."""
    if not plain_numbers(shown, 0, 99) or not shown:
        return "shown"
    last = len(shown) - 1
    if type(steps) is not tuple:
        return "steps"
    for step in steps:
        if type(step) is not tuple or len(step) != 3 or not is_plainly_heard(step[1]):
            return "steps"
        if not plain_number(step[0], 0, last) or not plain_number(step[2], 0, last):
            return "steps"
    if list(steps) != sorted(steps) or len({step[:2] for step in steps}) != len(steps):
        return "steps"
    if not plain_numbers(others, 0, last) or len(others) != len(shown):
        return "others"
    return None


class Making(unittest.TestCase):
    def check(self, shown, steps, others):
        fault = plain_fault(shown, steps, others)
        error = error_of(Device, shown, steps, others)
        by_name = error_of(Device, others=others, steps=steps, shown=shown)
        for raised in (error, by_name):
            if fault is None:
                self.assertIsNone(raised, (shown, steps, others))
            else:
                self.assertIs(type(raised), BadDevice, (shown, steps, others))
                self.assertEqual(raised.part, fault, (shown, steps, others))

    def test_attributes(self):
        device = Device(others=(0, 1), steps=((0, "a", 1),), shown=(0, 99))
        self.assertEqual((device.shown, device.steps, device.others), ((0, 99), ((0, "a", 1),), (0, 1)))

    def test_any_shown(self):
        for shown in [*wild_values(), *variants((0, 99)), (100,), (-1,), (True,), [0, 0]]:
            self.check(shown, (), (0,))
            self.check(shown, ((0, "a", 1),), (0, 1))

    def test_any_steps(self):
        steps = ((0, "", 1), (0, "ab", 0), (1, "b", 1))
        for thing in [*wild_values(), *variants(steps), list(steps), steps + steps[-1:], steps[::-1]]:
            self.check((0, 1), thing, (0, 1))

    def test_any_others(self):
        for others in [*wild_values(), *variants((0, 1)), (0,), (0, 1, 1), (0, 2), (0, -1), [0, 1], (0, True)]:
            self.check((0, 1), ((0, "a", 1),), others)

    def test_two_steps_for_one_state_and_heard_string(self):
        self.assertEqual(error_of(Device, (0, 0), ((0, "a", 0), (0, "a", 1)), (0, 0)).part, "steps")
        self.assertEqual(error_of(Device, (0, 0), ((0, "", 0), (0, "", 1)), (0, 0)).part, "steps")
        self.assertIsNone(error_of(Device, (0, 0), ((0, "", 0), (0, "a", 1), (1, "a", 0)), (0, 0)))

    def test_steps_that_do_not_ascend(self):
        for steps in (((1, "", 0), (0, "", 0)), ((0, "b", 0), (0, "a", 0)), ((0, "b", 0), (0, "ab", 0))):
            self.assertEqual(error_of(Device, (0, 0), steps, (0, 0)).part, "steps")

    def test_the_error_listed_first_is_raised(self):
        self.assertEqual(error_of(Device, (), None, None).part, "shown")
        self.assertEqual(error_of(Device, (0,), None, None).part, "steps")
        self.assertEqual(error_of(Device, (0,), (), None).part, "others")


class Using(unittest.TestCase):
    def test_length(self):
        self.assertEqual(len(PLAIN), 2)
        self.assertEqual(len(Device((0,), (), (0,))), 1)

    def test_equal(self):
        self.assertTrue(PLAIN == Device((0, 1), ((0, "a", 1),), (0, 1)))
        for other in (
            Device((0, 2), ((0, "a", 1),), (0, 1)),
            Device((0, 1), ((0, "b", 1),), (0, 1)),
            Device((0, 1), (), (0, 1)),
            Device((0, 1), ((0, "a", 1),), (1, 1)),
        ):
            self.assertFalse(PLAIN == other)
            self.assertTrue(PLAIN != other)

    def test_no_other_value_is_equal(self):
        parts = (PLAIN.shown, PLAIN.steps, PLAIN.others)
        for other in [*wild_values(), parts, list(parts), str(PLAIN), (PLAIN,), HALL, WARD]:
            self.assertIs(PLAIN == other, False)
            self.assertIs(other == PLAIN, False)

    def test_led(self):
        self.assertEqual(PLAIN.led(0, "a"), 1)
        self.assertEqual(PLAIN.led(0, ""), 0)
        self.assertEqual(PLAIN.led(0, "ab"), 0)
        self.assertEqual(PLAIN.led(heard="a", state=1), 1)

    def test_led_in_silence(self):
        device = Device((0, 0, 0), ((0, "", 2),), (1, 2, 0))
        self.assertEqual([device.led(state, "") for state in range(3)], [2, 2, 0])
        self.assertEqual([device.led(state, "q") for state in range(3)], [1, 2, 0])

    def test_some_devices(self):
        rng = random.Random(7)
        for _ in range(100):
            device = some_device(rng, FACES, 6)
            for state in range(len(device)):
                for heard in ("", "a", "ab", "b", "bc", "c", "z"):
                    self.assertEqual(device.led(state, heard), plain_led(device, state, heard))


class Faces(unittest.TestCase):
    def test_all_small_faces(self):
        bools = list(itertools.product((False, True), repeat=2))
        for many in (1, 2, 3):
            for faces in itertools.product(bools, repeat=many):
                self.assertIs(are_faces(faces), True)
        self.assertIs(are_faces(thing=FACES), True)

    def test_any_value(self):
        bools = list(itertools.product((False, True), repeat=2))
        rights = {exact(faces) for many in (1, 2, 3) for faces in itertools.product(bools, repeat=many)}
        wrongs = [((0, 1),), ((False, 1),), [(False, False)], ([False, False],), ((False,),), ((False, True, True),)]
        for thing in [*wild_values(), *variants(FACES), *wrongs, (), (None,), FACES + (None,)]:
            right = exact(thing) in rights
            self.assertIs(calls_leave_alone(self, are_faces, thing), right, thing)


class Silence(unittest.TestCase):
    def test_examples(self):
        self.assertIsNone(silent_ticks(FACES, PLAIN, 0))
        self.assertEqual(silent_ticks(FACES, PLAIN, 1), 0)

    def test_a_ring(self):
        device = Device((0, 0, 1), ((2, "", 0),), (1, 0, 2))
        self.assertIsNone(silent_ticks(FACES, device, 0))
        self.assertIsNone(silent_ticks(FACES, device, 1))
        self.assertEqual(silent_ticks(FACES, device, 2), 0)
        self.assertEqual(silent_ticks(FACES, Device((0, 0, 1), (), (1, 2, 0)), 0), 2)

    def test_the_longest_way(self):
        for many in range(1, 8):
            device = Device((0,) * (many - 1) + (1,), (), (*range(1, many), 0))
            for state in range(many):
                self.assertEqual(silent_ticks(faces=FACES, device=device, state=state), many - 1 - state)

    def test_a_step_for_silence_goes_ahead_of_the_other_state(self):
        device = Device((0, 1, 0), ((0, "", 2),), (1, 1, 2))
        self.assertIsNone(silent_ticks(FACES, device, 0))

    def test_a_face_that_rings_is_not_armed(self):
        self.assertIsNone(silent_ticks(((False, True),), Device((0,), (), (0,)), 0))

    def test_some_devices(self):
        rng = random.Random(8)
        for _ in range(200):
            device = some_device(rng, FACES, 6)
            for state in range(len(device)):
                place, found = state, None
                for ticks in range(20):
                    if FACES[device.shown[place]][0]:
                        found = ticks
                        break
                    place = plain_led(device, place, "")
                self.assertEqual(silent_ticks(FACES, device, state), found)


if __name__ == "__main__":
    unittest.main()

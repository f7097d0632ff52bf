"""The interface: each name stands in its file, with its parameters, and is defined there."""

import importlib
import inspect
import unittest

from housewardens.devices import Device
from tests.helpers import FACES, HALL, PLAIN, WARD, exact

FUNCTIONS = {
    "books": (
        "is_heard(thing)",
        "is_where(book, thing)",
        "open_moves(book, where, face)",
        "choices(book, where, face)",
        "heard_of(book, choice)",
        "where_behind(book, where, face, choice)",
        "outcomes(book, where, face)",
        "has_somebody(book, where)",
    ),
    "devices": ("are_faces(thing)", "silent_ticks(faces, device, state)"),
    "wards": (
        "first_picture(ward)",
        "is_picture(ward, thing)",
        "choices_in(ward, picture)",
        "tick(ward, picture, choice)",
        "is_run(ward, thing)",
        "along(ward, run)",
        "log_of(ward, run)",
        "has_harm(ward, picture, harm)",
        "pictures_of(ward, *, most=60)",
        "judge_ward(ward, harms, *, most=60)",
        "ward_holds(ward, harms, thing)",
        "first_run_to(ward, harm, *, most=60)",
    ),
    "goings": (
        "steps_of(ward, run)",
        "is_walk(ward, run, thing)",
        "do_make(ward, run, thing)",
        "are_apart(ward, run, step, further)",
    ),
}

METHODS = {
    "books": (
        "Book.__init__(self, rooms, moves, first)",
        "Book.__len__(self)",
        "Book.__eq__(self, other)",
        "Book.__str__(self)",
        "Book.read(text)",
        "Book.without_moves(self, numbers)",
    ),
    "devices": (
        "Device.__init__(self, shown, steps, others)",
        "Device.__len__(self)",
        "Device.__eq__(self, other)",
        "Device.__str__(self)",
        "Device.read(text)",
        "Device.led(self, state, heard)",
    ),
    "wards": (
        "Ward.__init__(self, book, faces, device)",
        "Ward.__eq__(self, other)",
        "Ward.__str__(self)",
        "Ward.read(text)",
    ),
}


RUN = ((0, 1), (1, 2))
VALUES = {
    "thing": RUN,
    "book": HALL,
    "faces": FACES,
    "device": PLAIN,
    "ward": WARD,
    "where": (1,),
    "face": 0,
    "choice": (0, 1),
    "state": 0,
    "picture": ((1,), 0),
    "run": RUN,
    "harm": "shut",
    "harms": ("bell", "shut"),
    "most": 7,
    "step": (0, 1, 0),
    "further": (1, 1, 2),
}


def told(things):
    """A text of values in which objects stand by their texts."""
    return exact([str(thing) if hasattr(thing, "read") else thing for thing in things])


class Interface(unittest.TestCase):
    def test_functions(self):
        for file, rows in FUNCTIONS.items():
            module = importlib.import_module(f"housewardens.{file}")
            for row in rows:
                function = getattr(module, row.partition("(")[0])
                self.assertEqual(f"{function.__name__}{inspect.signature(function)}", row)
                self.assertEqual(function.__module__, module.__name__)

    def test_calls(self):
        for file, rows in FUNCTIONS.items():
            for row in rows:
                function = getattr(importlib.import_module(f"housewardens.{file}"), row.partition("(")[0])
                names = list(inspect.signature(function).parameters)
                before = told(VALUES.values())
                more = {name: VALUES[name] for name in names if name == "most"}
                by_position = function(*[VALUES[name] for name in names if name != "most"], **more)
                by_name = function(**{name: VALUES[name] for name in reversed(names)})
                self.assertEqual(exact(by_position), exact(by_name), row)
                self.assertEqual(exact(by_position), exact(function(**{name: VALUES[name] for name in names})), row)
                self.assertEqual(before, told(VALUES.values()), row)

    def test_checkers_answer_with_bools(self):
        for file, rows in FUNCTIONS.items():
            for row in rows:
                name = row.partition("(")[0]
                if name.startswith(("is_", "are_", "has_", "do_")) or name.endswith("_holds"):
                    function = getattr(importlib.import_module(f"housewardens.{file}"), name)
                    names = inspect.signature(function).parameters
                    self.assertIsInstance(function(**{part: VALUES[part] for part in names}), bool)

    def test_methods_leave_their_objects_alone(self):
        before = told((HALL, PLAIN, WARD))
        for _ in range(2):
            self.assertEqual(len(HALL.without_moves((0,)).moves), 3)
            self.assertEqual(PLAIN.led(0, "a"), 1)
            self.assertEqual(PLAIN, Device.read(str(PLAIN)))
        self.assertEqual(before, told((HALL, PLAIN, WARD)))

    def test_methods(self):
        for file, rows in METHODS.items():
            module = importlib.import_module(f"housewardens.{file}")
            for row in rows:
                kind, name = row.partition("(")[0].split(".")
                own = getattr(module, kind)
                self.assertEqual(own.__module__, module.__name__)
                self.assertIn(name, vars(own))
                self.assertEqual(f"{kind}.{name}{inspect.signature(getattr(own, name))}", row)

    def test_read_is_a_class_method(self):
        for file, kind in (("books", "Book"), ("devices", "Device"), ("wards", "Ward")):
            own = getattr(importlib.import_module(f"housewardens.{file}"), kind)
            self.assertIsInstance(vars(own)["read"], classmethod)


if __name__ == "__main__":
    unittest.main()

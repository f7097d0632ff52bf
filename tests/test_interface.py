"""The interface: each name stands in its file, with its parameters, and is defined there."""

import importlib
import inspect
import unittest

FUNCTIONS = {
    "books": (
        "is_heard(thing)",
        "is_where(book, thing)",
        "open_moves(book, where, face)",
        "choices(book, where, face)",
        "heard_of(book, choice)",
        "where_behind(book, where, face, choice)",
        "outcomes(book, where, face)",
        "has_somebody(book, where)",
    ),
    "devices": ("are_faces(thing)", "silent_ticks(faces, device, state)"),
    "wards": (
        "first_picture(ward)",
        "is_picture(ward, thing)",
        "choices_in(ward, picture)",
        "tick(ward, picture, choice)",
        "is_run(ward, thing)",
        "along(ward, run)",
        "log_of(ward, run)",
        "has_harm(ward, picture, harm)",
        "pictures_of(ward, *, most=60)",
        "judge_ward(ward, harms, *, most=60)",
        "ward_holds(ward, harms, thing)",
        "first_run_to(ward, harm, *, most=60)",
    ),
    "goings": (
        "steps_of(ward, run)",
        "is_walk(ward, run, thing)",
        "do_make(ward, run, thing)",
        "are_apart(ward, run, step, further)",
    ),
}

METHODS = {
    "books": (
        "Book.__init__(self, rooms, moves, first)",
        "Book.__len__(self)",
        "Book.__eq__(self, other)",
        "Book.__str__(self)",
        "Book.read(text)",
        "Book.without_moves(self, numbers)",
    ),
    "devices": (
        "Device.__init__(self, shown, steps, others)",
        "Device.__len__(self)",
        "Device.__eq__(self, other)",
        "Device.__str__(self)",
        "Device.read(text)",
        "Device.led(self, state, heard)",
    ),
    "wards": (
        "Ward.__init__(self, book, faces, device)",
        "Ward.__eq__(self, other)",
        "Ward.__str__(self)",
        "Ward.read(text)",
    ),
}


class Interface(unittest.TestCase):
    def test_functions(self):
        for file, rows in FUNCTIONS.items():
            module = importlib.import_module(f"housewardens.{file}")
            for row in rows:
                function = getattr(module, row.partition("(")[0])
                self.assertEqual(f"{function.__name__}{inspect.signature(function)}", row)
                self.assertEqual(function.__module__, module.__name__)

    def test_methods(self):
        for file, rows in METHODS.items():
            module = importlib.import_module(f"housewardens.{file}")
            for row in rows:
                kind, name = row.partition("(")[0].split(".")
                own = getattr(module, kind)
                self.assertEqual(own.__module__, module.__name__)
                self.assertIn(name, vars(own))
                self.assertEqual(f"{kind}.{name}{inspect.signature(getattr(own, name))}", row)

    def test_read_is_a_class_method(self):
        for file, kind in (("books", "Book"), ("devices", "Device"), ("wards", "Ward")):
            own = getattr(importlib.import_module(f"housewardens.{file}"), kind)
            self.assertIsInstance(vars(own)["read"], classmethod)


if __name__ == "__main__":
    unittest.main()

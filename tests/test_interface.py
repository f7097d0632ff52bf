"""The interface: each name stands in its file, with its parameters, and is defined there."""

import importlib
import inspect
import unittest

from housewardens.books import Book
from housewardens.devices import Device
from housewardens.guests import Guest
from housewardens.onlookers import Onlooker
from housewardens.wards import Ward
from tests import plain
from tests.helpers import FACES, HALL, PLAIN, WARD, exact, variants, wild_values
from tests.plain_guests import BELLS, CALM, LOUD_GUEST

FUNCTIONS = {
    "books": (
        "is_heard(thing)",
        "is_where(book, thing)",
        "open_moves(book, where, face)",
        "choices(book, where, face)",
        "heard_of(book, choice)",
        "where_behind(book, where, face, choice)",
        "outcomes(book, where, face)",
        "has_somebody(book, where)",
    ),
    "devices": ("are_faces(thing)", "silent_ticks(faces, device, state)"),
    "wards": (
        "first_picture(ward)",
        "is_picture(ward, thing)",
        "choices_in(ward, picture)",
        "tick(ward, picture, choice)",
        "is_run(ward, thing)",
        "along(ward, run)",
        "log_of(ward, run)",
        "has_harm(ward, picture, harm)",
        "pictures_of(ward, *, most=60)",
        "judge_ward(ward, harms, *, most=60)",
        "ward_holds(ward, harms, thing)",
        "first_run_to(ward, harm, *, most=60)",
    ),
    "goings": (
        "steps_of(ward, run)",
        "is_walk(ward, run, thing)",
        "do_make(ward, run, thing)",
        "are_apart(ward, run, step, further)",
    ),
    "walks": (
        "fewest_people(ward, run)",
        "people_paper(ward, run)",
        "people_holds(ward, run, thing)",
        "can_make(ward, run, many)",
    ),
    "crowds": (
        "first_crowds(ward, many)",
        "crowds_behind(ward, pair)",
        "crowds_met(ward, many, *, most=1500)",
    ),
    "enough": (
        "run_for(ward, many, picture)",
        "judge_many(ward, many, picture, *, most=1500)",
        "many_holds(ward, many, picture, thing)",
        "fewest_for(ward, picture)",
        "enough(ward)",
    ),
    "lots": (
        "first_lot(book)",
        "is_lot(book, thing)",
        "lot_after(book, lot, face, heard)",
        "answers(book, lot, face)",
        "lot_behind(ward, log)",
        "stands_met(ward, *, most=60)",
        "surely_there(ward, log)",
        "perhaps_there(ward, log)",
    ),
    "logs": (
        "is_log(thing)",
        "state_behind(device, log)",
        "faces_shown(device, log)",
        "can_come(ward, log)",
        "logs_that_come(ward, length)",
        "first_log(ward, where, *, most=60)",
    ),
    "alike": (
        "are_alike(one, other)",
        "parting_log(one, other)",
        "least_device(device)",
        "are_alike_beside(ward, other, *, most=60)",
        "log_beside(ward, other, *, most=60)",
        "judge_alike(ward, other, *, most=60)",
        "alike_holds(ward, other, thing)",
    ),
    "plays": (
        "safe_faces(book, faces, lot, harms, *, choice=None)",
        "is_waiting(book, lot, harms)",
    ),
    "keepers": (
        "can_keep(book, faces, harms, *, ears=None, choice=None, most=60)",
        "judge_keeping(book, faces, harms, *, ears=None, choice=None, most=60)",
        "keeper_of(book, faces, harms, *, ears=None, choice=None, most=60)",
    ),
    "keeppapers": (
        "keeping_holds(book, faces, harms, thing, *, ears=None, choice=None)",
        "rows_of_ward(ward, *, ears=None, most=60)",
    ),
    "cuts": (
        "cut_heard(heard, ears)",
        "answers_by_ears(book, lot, face, ears)",
    ),
    "ears": (
        "least_ears(book, faces, harms, *, choice=None, most=60)",
        "least_choices(book, faces, harms, *, ears=None, most=60)",
        "ears_paper(book, faces, harms, *, choice=None, most=60)",
        "ears_paper_holds(book, faces, harms, thing, *, choice=None)",
        "choices_paper(book, faces, harms, *, ears=None, most=60)",
        "choices_paper_holds(book, faces, harms, thing, *, ears=None)",
    ),
    "surely": (
        "is_sure_lot(book, lot)",
        "rounds_for(book, faces, *, harms=(), most=60)",
        "rounds_by_lot(book, faces, *, harms=(), most=60)",
        "face_for(book, faces, lot, *, harms=(), most=60)",
        "surer(book, faces, *, harms=(), most=60)",
        "rounds_of(ward, *, most=60)",
        "gap_for(book, faces, *, harms=(), most=60)",
        "stayer(book, faces, *, harms=(), most=60)",
        "gap_of(ward, *, most=60)",
    ),
    "surepapers": (
        "judge_surely(book, faces, *, harms=(), most=60)",
        "surely_holds(book, faces, harms, thing)",
        "judge_rounds(book, faces, rounds, *, harms=(), most=60)",
        "rounds_hold(book, faces, rounds, harms, thing)",
        "judge_gap(book, faces, gap, *, harms=(), most=60)",
        "gap_holds(book, faces, gap, harms, thing)",
    ),
    "bars": (
        "barred_book(book, bar)",
        "is_bar(book, thing)",
        "fewest_bars(book, faces, harms, *, greatest=3, most=60)",
        "bars_paper(book, faces, harms, *, greatest=3, most=60)",
        "bars_paper_holds(book, faces, harms, thing)",
    ),
    "guests": (
        "guest_moves(guest, standing, face)",
        "guest_goes(guest, standing, move)",
    ),
    "visits": (
        "first_case(book)",
        "is_case(book, guest, thing)",
        "cases_after(book, guest, cases, face, heard)",
        "case_answers(book, guest, cases, face)",
        "cases_behind(ward, guest, log)",
        "is_visit(ward, guest, thing)",
        "sights_along(ward, guest, visit)",
        "visit_log(ward, guest, visit)",
    ),
    "catching": (
        "does_catch(ward, guest, ticks, *, most=300)",
        "judge_catching(ward, guest, ticks, *, most=300)",
        "catching_holds(ward, guest, ticks, thing)",
        "least_ticks(ward, guest, ticks, *, most=300)",
        "doubt_of(ward, guest, ticks, *, most=60)",
        "doubt_holds(ward, guest, ticks, thing)",
    ),
    "catchers": (
        "can_catch(book, faces, guest, ticks, *, most=60)",
        "judge_guest(book, faces, guest, ticks, *, most=60)",
        "guest_holds(book, faces, guest, ticks, thing)",
        "catcher_of(book, faces, guest, ticks, *, most=60)",
        "least_catch(book, faces, guest, ticks, *, most=60)",
    ),
    "sights": (
        "notes_of(ward, onlooker, run)",
        "do_look_alike(ward, onlooker, run, further)",
        "possible_pictures(ward, onlooker, run)",
        "knows_empty(ward, onlooker, run)",
        "knows_somebody(ward, onlooker, run)",
        "possible_crowds(ward, onlooker, run, many)",
    ),
    "learning": (
        "first_learned(ward, onlooker, word, *, most=60)",
        "judge_learned(ward, onlooker, word, *, most=60)",
        "learned_holds(ward, onlooker, word, thing)",
        "lots_of_pictures(ward, onlooker, *, most=60)",
    ),
    "days": (
        "run_of_log(ward, log, where)",
        "crowds_of_log(ward, log, many)",
        "people_of_log(ward, log, *, greatest=6)",
        "judge_day(ward, log, many)",
        "day_holds(ward, log, many, thing)",
    ),
    "findings": ("finding_holds(thing)", "told_by_texts(paper)"),
    "commands": ("command_words(thing)",),
}

METHODS = {
    "books": (
        "Book.__init__(self, rooms, moves, first)",
        "Book.__len__(self)",
        "Book.__eq__(self, other)",
        "Book.__str__(self)",
        "Book.read(text)",
        "Book.without_moves(self, numbers)",
    ),
    "devices": (
        "Device.__init__(self, shown, steps, others)",
        "Device.__len__(self)",
        "Device.__eq__(self, other)",
        "Device.__str__(self)",
        "Device.read(text)",
        "Device.led(self, state, heard)",
    ),
    "wards": (
        "Ward.__init__(self, book, faces, device)",
        "Ward.__eq__(self, other)",
        "Ward.__str__(self)",
        "Ward.read(text)",
    ),
    "guests": (
        "Guest.__init__(self, rooms, moves)",
        "Guest.__len__(self)",
        "Guest.__eq__(self, other)",
        "Guest.__str__(self)",
        "Guest.read(text)",
    ),
    "onlookers": (
        "Onlooker.__init__(self, letters, classes)",
        "Onlooker.__eq__(self, other)",
        "Onlooker.__or__(self, other)",
        "Onlooker.sees_all_of(self, other)",
    ),
    "office": (
        "Office.__init__(self)",
        "Office.__len__(self)",
        "Office.open_ward(self, name, ward)",
        "Office.close_ward(self, name)",
        "Office.hear(self, name, heard)",
        "Office.renew(self, name, device, *, most=60)",
        "Office.swap(self, name, device, *, most=60)",
        "Office.undo(self)",
        "Office.redo(self)",
        "Office.ward_of(self, name)",
        "Office.editions_of(self, name)",
        "Office.day_of(self, name)",
        "Office.lot_now(self, name)",
        "Office.face_now(self, name)",
    ),
    "console": ("Console.__init__(self)", "Console.say(self, command)"),
}

RUN = ((0, 1), (1, 2))
# In this book somebody goes for ever, so that it becomes sure, and each harm but "open" can be kept.
GOING = Book((0, -1), ((0, 1, "a", (0, 1), (), ()),), (0,))
VALUES = {
    "thing": RUN,
    "book": HALL,
    "faces": FACES,
    "device": PLAIN,
    "ward": WARD,
    "where": (1,),
    "face": 0,
    "choice": (0, 1),
    "state": 0,
    "picture": ((1,), 0),
    "run": RUN,
    "harm": "shut",
    "harms": ("bell", "shut"),
    "most": 70,
    "step": (0, 1, 0),
    "further": (1, 1, 2),
    "many": 3,
    "pair": ((1, 2, 0), 0),
    "lot": ((1,),),
    "log": ("", "a"),
    "heard": "a",
    "length": 2,
    "one": PLAIN,
    "other": Device((0,), (), (0,)),
    "ears": "ab",
    "rounds": 2,
    "gap": 2,
    "bar": (0, 2),
    "greatest": 2,
    "guest": Guest((-1, 3), ((0, 1, "a", (0,)),)),
    "standing": 0,
    "move": -1,
    "cases": (((1,), 0, 0), ((1, 2), 1, 3)),
    "visit": (((0, 1), 0), ((1,), -1)),
    "ticks": 2,
    "onlooker": Onlooker("a", (3, 1)),
    "word": "empty",
    "paper": ("kept", PLAIN, (HALL, [WARD])),
}
# What these take of another kind than the others do.
OTHERS = {
    "surely": {"book": GOING, "lot": ((0,),), "ward": Ward(GOING, FACES, PLAIN)},
    "surepapers": {"book": GOING},
    "keepers": {"choice": (0,)},
    "keeppapers": {"choice": (0,)},
    "plays": {"choice": (0,)},
    "ears": {"choice": (0,)},
    "catchers": {"guest": LOUD_GUEST, "faces": BELLS, "book": CALM},
    "sights": {"further": ((1,),)},
    "commands": {"thing": "learn hall a empty"},
}


def told(things):
    """A text of values in which objects stand by their texts."""
    return exact([plain.told(thing) for thing in things])


def calls():
    """Each function of the interface, with the values that it is passed."""
    for file, rows in FUNCTIONS.items():
        for row in rows:
            function = getattr(importlib.import_module(f"housewardens.{file}"), row.partition("(")[0])
            values = {**VALUES, **OTHERS.get(file, {})}
            yield function, {name: values[name] for name in inspect.signature(function).parameters}


def found(function, *values, **more):
    """What a call returns, told as a text; what is yielded is told as a list."""
    result = function(*values, **more)
    return plain.told(list(result) if inspect.isgenerator(result) else result)


def plain_papers():
    """Values like papers of all kinds, with parts of other kinds."""
    rows = ((((0,),), 0, "lost"), (((0,), (1,)), 1, 0), (((0,),), 0), ((0,),), (((0,),), 0, 0), ("", ()), ((0,), ()))
    words = ("kept", "refused", "sure", "late", "never", "stays", "breaks", "alike", "parted", "closed", "run", "people")
    for word in (*words, "ears", "choices", "barred", "no bar", "catches", "early", "caught", "unheard", "learns"):
        yield from ((word,), (word, ()), (word, (), ()), (word, 0, (), ()), (word, 0, ()), (word, PLAIN, ()), [word, ()])
        for row in rows:
            yield from ((word, (row,)), (word, PLAIN, (row,)), (word, (row, row)), (word, (row,), (row,)))
            yield from ((word, 1, (row,)), (word, 0, (row,), (row,)), (word, 0, (((), row),), ()), (word, ((row, None),)))
    for thing in variants(("kept", PLAIN, (rows[2],)), [None, True, -1, "a", [], {}, ((),)]):
        yield thing


class Interface(unittest.TestCase):
    def test_functions(self):
        for file, rows in FUNCTIONS.items():
            module = importlib.import_module(f"housewardens.{file}")
            for row in rows:
                function = getattr(module, row.partition("(")[0])
                self.assertEqual(f"{function.__name__}{inspect.signature(function)}", row)
                self.assertEqual(function.__module__, module.__name__)

    def test_calls(self):
        for function, values in calls():
            kinds = {name: row.kind for name, row in inspect.signature(function).parameters.items()}
            more = {name: value for name, value in values.items() if kinds[name] is inspect.Parameter.KEYWORD_ONLY}
            row = [value for name, value in values.items() if name not in more]
            before = told(values.values())
            by_position = found(function, *row, **more)
            self.assertEqual(by_position, found(function, **dict(reversed(values.items()))), function)
            self.assertEqual(by_position, found(function, **values), function)
            self.assertEqual(before, told(values.values()), function)
            if more:
                self.assertRaises(TypeError, function, *row, *more.values())

    def test_checkers_answer_with_bools(self):
        heads = ("is_", "are_", "has_", "can_", "do_", "does_", "knows_")
        for function, values in calls():
            if function.__name__.startswith(heads) or function.__name__.endswith(("_holds", "_hold")):
                self.assertIsInstance(function(**values), bool, function)

    def test_checkers_raise_nothing(self):
        for function, values in calls():
            if "thing" in values and function.__name__ != "command_words":
                for thing in [*wild_values(), *plain_papers()]:
                    self.assertIsInstance(function(**{**values, "thing": thing}), bool, (function, thing))

    def test_methods_leave_their_objects_alone(self):
        before = told((HALL, PLAIN, WARD))
        for _ in range(2):
            self.assertEqual(len(HALL.without_moves((0,)).moves), 3)
            self.assertEqual(PLAIN.led(0, "a"), 1)
            self.assertEqual(PLAIN, Device.read(str(PLAIN)))
        self.assertEqual(before, told((HALL, PLAIN, WARD)))

    def test_methods(self):
        for file, rows in METHODS.items():
            module = importlib.import_module(f"housewardens.{file}")
            for row in rows:
                kind, name = row.partition("(")[0].split(".")
                own = getattr(module, kind)
                self.assertEqual(own.__module__, module.__name__)
                self.assertIn(name, vars(own))
                self.assertEqual(f"{kind}.{name}{inspect.signature(getattr(own, name))}", row)

    def test_properties(self):
        for file, kind, name in (("office", "Office", "names_open"), ("console", "Console", "office")):
            own = getattr(importlib.import_module(f"housewardens.{file}"), kind)
            self.assertIsInstance(vars(own)[name], property)
            self.assertEqual(str(inspect.signature(own)), "()")

    def test_nothing_else_is_a_function_of_a_class(self):
        listed = {row.partition("(")[0].split(".")[0] for rows in METHODS.values() for row in rows}
        self.assertEqual(listed, {"Book", "Device", "Ward", "Guest", "Onlooker", "Office", "Console"})

    def test_read_is_a_class_method(self):
        for file, kind in (("books", "Book"), ("devices", "Device"), ("wards", "Ward"), ("guests", "Guest")):
            own = getattr(importlib.import_module(f"housewardens.{file}"), kind)
            self.assertIsInstance(vars(own)["read"], classmethod)


if __name__ == "__main__":
    unittest.main()

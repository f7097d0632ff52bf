"""Point [8]: texts of books, devices and wards."""

import random
import unittest

from housewardens.books import Book
from housewardens.devices import Device
from housewardens.errors import BadText, BadWard
from housewardens.wards import Ward
from tests.helpers import FACES, HALL, PLAIN, WARD, error_of, some_book, some_device, some_wards, wild_values

BOOK_TEXT = "rooms -1 0 1\nfirst 1\nmove 1 0 a 0 1 -\nmove 1 1 - 0,1 - -\nmove 1 2 - 0,1 - -\nmove 2 1 - 0,1 - -"
DEVICE_TEXT = "state 0 0\nstate 1 1\nstep 0 a 1"
WARD_TEXT = BOOK_TEXT + "\nface no no\nface yes no\n" + DEVICE_TEXT
LONG_DEVICE = Device((0, 1, 12), ((0, "", 0), (0, "ab", 2), (1, "z", 0), (2, "", 1)), (0, 1, 2))


class Texts(unittest.TestCase):
    def wrong(self, kind, text, line):
        for error in (error_of(kind.read, text), error_of(kind.read, text=text)):
            self.assertIs(type(error), BadText, (kind, text))
            self.assertIs(type(error.line), int)
            self.assertEqual(error.line, line, (kind, text))

    def pairs(self):
        yield Book, BOOK_TEXT
        yield Device, DEVICE_TEXT
        yield Device, str(LONG_DEVICE)
        yield Ward, WARD_TEXT


class Writing(Texts):
    def test_examples(self):
        self.assertEqual(str(HALL), BOOK_TEXT)
        self.assertEqual(str(PLAIN), DEVICE_TEXT)
        self.assertEqual(str(WARD), WARD_TEXT)
        self.assertEqual(Book.read(BOOK_TEXT), HALL)
        self.assertEqual(Device.read(text=DEVICE_TEXT), PLAIN)
        self.assertEqual(Ward.read(WARD_TEXT), WARD)

    def test_least_texts(self):
        self.assertEqual(str(Book((-1,), (), (0,))), "rooms -1\nfirst 0")
        self.assertEqual(str(Device((99,), (), (0,))), "state 99 0")
        self.assertEqual(Book.read("rooms -1\nfirst 0"), Book((-1,), (), (0,)))
        self.assertEqual(Device.read("state 99 0"), Device((99,), (), (0,)))

    def test_all_parts(self):
        book = Book((0, -1), ((0, 1, "", (), (), ()), (1, 0, "abz", (0, 1, 99), (0, 3, 9), (0, 5))), (0, 1))
        text = "rooms 0 -1\nfirst 0 1\nmove 0 1 - - - -\nmove 1 0 abz 0,1,99 0,3,9 0,5"
        self.assertEqual(str(book), text)
        self.assertEqual(Book.read(text), book)
        self.assertEqual(str(LONG_DEVICE).split("\n")[3:], ["step 0 - 0", "step 0 ab 2", "step 1 z 0", "step 2 - 1"])

    def test_reading_leads_back(self):
        rng = random.Random(31)
        for _ in range(100):
            book, device = some_book(rng, 4, 8), some_device(rng, FACES, 6)
            self.assertEqual(Book.read(str(book)), book)
            self.assertEqual(Device.read(str(device)), device)
        for ward in some_wards(60, 32):
            self.assertEqual(Ward.read(str(ward)), ward)
            self.assertEqual(str(Ward.read(str(ward))), str(ward))

    def test_many_standings_and_states(self):
        book = Book((0,) * 12, ((11, 10, "", (), (), ()),), (10, 11))
        device = Device((0,) * 12, ((10, "", 11), (11, "", 10)), (11,) * 12)
        self.assertEqual(Book.read(str(book)), book)
        self.assertEqual(Device.read(str(device)), device)


class AnyValue(Texts):
    def test_no_string(self):
        for kind in (Book, Device, Ward):
            for thing in [*wild_values(), HALL, PLAIN, WARD, b"rooms 0", [BOOK_TEXT], (DEVICE_TEXT,)]:
                self.wrong(kind, thing, 1 if isinstance(thing, str) else 0)

    def test_texts_of_other_kinds(self):
        self.wrong(Book, DEVICE_TEXT, 1)
        self.wrong(Device, BOOK_TEXT, 1)
        self.wrong(Ward, DEVICE_TEXT, 1)
        self.wrong(Ward, BOOK_TEXT, 7)
        self.wrong(Book, WARD_TEXT, 7)
        self.wrong(Device, WARD_TEXT, 1)


class Lines(Texts):
    def test_an_end_too_soon(self):
        for kind, text, needed in (
            (Book, BOOK_TEXT, 2),
            (Device, DEVICE_TEXT, 1),
            (Ward, WARD_TEXT, 9),
        ):
            lines = text.split("\n")
            for many in range(1, needed):
                self.wrong(kind, "\n".join(lines[:many]), many + 1)
            self.wrong(kind, "", 1)

    def test_signs_at_the_ends_of_lines(self):
        for kind, text in self.pairs():
            lines = text.split("\n")
            for at, line in enumerate(lines):
                for wrong in (line + " ", " " + line, line.replace(" ", "  ", 1), line + " -", line + " x", line + "-"):
                    self.wrong(kind, "\n".join([*lines[:at], wrong, *lines[at + 1 :]]), at + 1)
                last = line.split(" ")[-1]
                self.wrong(kind, "\n".join([*lines[:at], line[: -len(last)] + " " + last, *lines[at + 1 :]]), at + 1)
                self.wrong(kind, "\n".join([*lines[:at], line.split(" ")[0], *lines[at + 1 :]]), at + 1)
                self.wrong(kind, "\n".join([*lines[:at], line.upper(), *lines[at + 1 :]]), at + 1)
                self.wrong(kind, "\n".join([*lines[:at], line.replace(" ", "\t", 1), *lines[at + 1 :]]), at + 1)

    def test_line_feeds(self):
        for kind, text in self.pairs():
            many = len(text.split("\n"))
            self.wrong(kind, text + "\n", many + 1)
            self.wrong(kind, "\n" + text, 1)
            for at in range(1, many):
                lines = text.split("\n")
                self.wrong(kind, "\n".join([*lines[:at], "", *lines[at:]]), at + 1)

    def test_numbers_as_python_does_not_write_them(self):
        for kind, text in self.pairs():
            lines = text.split("\n")
            for at, line in enumerate(lines):
                words = line.split(" ")
                for place, word in enumerate(words):
                    if not word.lstrip("-").replace(",", "").isdigit():
                        continue
                    for wrong in ("0" + word, "+" + word, "--" + word, word + ",", "," + word, word + ".0", word + "_0",
                                  "-0", "00", "1" * 30, "1" * 3000, "9" * 5000, "\u0661", "\u00b2"):  # fmt: skip
                        told = [*lines[:at], " ".join([*words[:place], wrong, *words[place + 1 :]]), *lines[at + 1 :]]
                        self.wrong(kind, "\n".join(told), at + 1)

    def test_a_line_left_out(self):
        self.wrong(Book, BOOK_TEXT.split("\n", 1)[1], 1)
        self.wrong(Book, "rooms -1 0 1\nmove 1 0 a 0 1 -", 2)
        self.wrong(Device, "step 0 a 0", 1)
        self.wrong(Ward, BOOK_TEXT + "\n" + DEVICE_TEXT, 7)
        self.wrong(Ward, BOOK_TEXT + "\nface no no\nface yes no\nstep 0 a 1", 9)
        self.wrong(Ward, "rooms 0\nfirst 0\nface no no", 4)
        self.wrong(Ward, "rooms 0\nfirst 0\nstate 0 0", 3)
        self.wrong(Device, "state 0 0\nstep 0 a 1", 2)
        self.assertEqual(Ward.read("rooms 0\nfirst 0\nface no no\nstate 0 0").device, Device((0,), (), (0,)))

    def test_a_line_twice(self):
        self.wrong(Book, "rooms 0\nrooms 0\nfirst 0", 2)
        self.wrong(Book, "rooms 0\nfirst 0\nfirst 0", 3)
        self.wrong(Device, DEVICE_TEXT + "\nstep 0 a 1", 4)
        self.wrong(Device, DEVICE_TEXT + "\nstep 0 a 0", 4)
        twice = Book.read("rooms 0\nfirst 0\nmove 0 0 - 0 - -\nmove 0 0 - 0 - -")
        self.assertEqual(len(twice.moves), 2)

    def test_a_line_out_of_its_place(self):
        self.wrong(Book, "first 0\nrooms 0", 1)
        self.wrong(Book, "rooms 0\nmove 0 0 - 0 - -\nfirst 0", 2)
        self.wrong(Book, "rooms 0\nfirst 0\nmove 0 0 - 0 - -\nfirst 0", 4)
        self.wrong(Device, "state 0 0\nstep 0 a 0\nstate 0 0", 3)
        self.wrong(Device, "step 0 a 0\nstate 0 0", 1)
        self.wrong(Ward, "rooms 0\nfirst 0\nface no no\nmove 0 0 - 0 - -\nstate 0 0", 4)
        self.wrong(Ward, "rooms 0\nfirst 0\nstate 0 0\nface no no", 3)
        self.wrong(Ward, "rooms 0\nfirst 0\nface no no\nstate 0 0\nface no no", 5)
        self.wrong(Ward, "face no no\nrooms 0\nfirst 0\nstate 0 0", 1)

    def test_a_word_more_or_less(self):
        self.wrong(Book, "rooms\nfirst 0", 1)
        self.wrong(Book, "rooms 0\nfirst", 2)
        self.wrong(Book, "rooms 0\nfirst 0\nmove 0 0 - 0 -", 3)
        self.wrong(Book, "rooms 0\nfirst 0\nmove 0 0 - 0 - - -", 3)
        self.wrong(Device, "state 0\nstep 0 a 0", 1)
        self.wrong(Device, "state 0 0 0", 1)
        self.wrong(Device, "state 0 0\nstep 0 a", 2)
        self.wrong(Device, "state 0 0\nstep 0 a 0 0", 2)
        for line in ("face no", "face", "face no no no", "face yes yes -"):
            self.wrong(Ward, "rooms 0\nfirst 0\n" + line + "\nstate 0 0", 3)

    def test_what_a_line_tells_is_none(self):
        for rooms in ("10", "-2", "0 10", "x", "-", "0,1", "--1"):
            self.wrong(Book, f"rooms {rooms}\nfirst 0", 1)
        for first in ("2", "-1", "1 0", "0 0", "0,1", "-", "a"):
            self.wrong(Book, f"rooms 0 1\nfirst {first}", 2)
        for move in (
            "2 0 - 0 - -", "-1 0 - 0 - -", "0 2 - 0 - -", "- 0 - 0 - -", "0 0 ba 0 - -", "0 0 aa 0 - -", "0 0 A 0 - -",
            "0 0 - 100 - -", "0 0 - 1,0 - -", "0 0 - 0,0 - -", "0 0 - -1 - -", "0 0 - 0 0 -", "0 0 - 0 - 0",
            "0 0 - 0 10 -", "0 0 - 0 2,1 -", "0 0 - 0 - 1,1", "0 0 - 0 - -1", "0 0 0 0 - -", "0 0 - a - -",
            "0 0 - 0,,1 - -", "0 0 - , - -", "0 0 a- 0 - -",
        ):  # fmt: skip
            self.wrong(Book, f"rooms 0 1\nfirst 0\nmove 0 0 a 0 1 1\nmove {move}\nmove x", 4)
        for state in ("100 0", "-1 0", "0 2", "0 -1", "- 0", "0 -", "a 0", "0,1 0"):
            self.wrong(Device, f"state 0 1\nstate {state}\nstep x", 2)
        for step in ("2 a 0", "-1 a 0", "0 a 2", "0 ba 0", "0 a -", "- a 0", "0 A 0", "0 1 0"):
            self.wrong(Device, f"state 0 1\nstate 0 0\nstep {step}", 3)
        for face in ("no", "yes maybe", "Yes no", "no 0", "True False", "- -", "1 0", "noyes no"):
            self.wrong(Ward, f"rooms 0\nfirst 0\nface no no\nface {face}\nstate 0 0", 4)

    def test_two_blanks_in_the_place_of_an_empty_part(self):
        for move in ("0 0  0 - -", "0 0 -  - -", "0 0 - 0  -", "0 0 - 0 - ", " 0 - 0 - -", "0  - 0 - -"):
            self.wrong(Book, f"rooms 0\nfirst 0\nmove {move}", 3)
        for step in ("0  0", " - 0", "0 - "):
            self.wrong(Device, f"state 0 0\nstep {step}", 2)
        self.wrong(Device, "state  0", 1)
        self.wrong(Ward, "rooms 0\nfirst 0\nface  no\nstate 0 0", 3)

    def test_states_of_a_ward_are_counted_from_its_first_state_on(self):
        self.wrong(Ward, "rooms 0\nfirst 0\nface no no\nstate 0 1", 4)
        self.wrong(Ward, "rooms 0\nfirst 0\nface no no\nstate 0 1\nstate 0 2", 5)
        self.wrong(Ward, "rooms 0\nfirst 0\nface no no\nstate 0 0\nstep 1 a 0", 5)

    def test_steps_that_do_not_ascend(self):
        self.wrong(Device, "state 0 0\nstate 0 0\nstep 0 b 0\nstep 0 a 0", 4)
        self.wrong(Device, "state 0 0\nstate 0 0\nstep 1 a 0\nstep 0 b 0\nstep 0 a 0", 4)
        self.wrong(Device, "state 0 0\nstate 0 0\nstep 0 a 0\nstep 0 - 0", 4)
        self.wrong(Device, "state 0 0\nstate 0 0\nstep 0 a 0\nstep 0 a 1", 4)

    def test_states_that_stand_together_count(self):
        self.wrong(Device, "state 0 1\nstep 0 a 0\nstate 0 0", 1)
        self.wrong(Device, "state 0 1\nstate 0", 2)
        self.assertEqual(len(Device.read("state 0 1\nstate 0 0")), 2)

    def test_the_first_wrong_line_is_told(self):
        self.wrong(Book, "rooms 10\nfirst 5\nmove", 1)
        self.wrong(Book, "rooms 1\nfirst 5\nmove", 2)
        self.wrong(Ward, "rooms 1\nfirst 0\nface no\nstate 5", 3)


class Wards(Texts):
    def test_a_device_that_shows_the_number_of_no_face(self):
        text = "rooms 0\nfirst 0\nface no no\nstate 1 0"
        error = error_of(Ward.read, text)
        self.assertIs(type(error), BadWard)
        self.assertEqual(error.part, "device")

    def test_wrong_lines_go_ahead(self):
        text = "rooms 0\nfirst 0\nface no no\nstate 1 0"
        self.wrong(Ward, text + "\n", 5)
        self.wrong(Ward, text + "\nstep 0 a 1", 5)

    def test_faces(self):
        text = "rooms 0\nfirst 0\nface no no\nface no yes\nface yes no\nface yes yes\nstate 3 0"
        ward = Ward.read(text)
        self.assertEqual(repr(ward.faces), "((False, False), (False, True), (True, False), (True, True))")
        self.assertEqual(str(ward), text)


if __name__ == "__main__":
    unittest.main()

"""Point [43] for commands, and commands.py."""

import random
import unittest

from housewardens.commands import command_words
from housewardens.errors import InvalidCommand
from tests.helpers import WARD, calls_leave_alone, error_of, variants, wild_values
from tests.plain import told

# By its first word the number of words of a command, and whether the last one is a text.
FORMS = {
    "open": (3, True),
    "close": (2, False),
    "renew": (3, True),
    "replace": (3, True),
    "hear": (3, False),
    "undo": (1, False),
    "redo": (1, False),
    "wards": (1, False),
    "device": (2, False),
    "ward": (2, False),
    "face": (2, False),
    "log": (2, False),
    "lot": (2, False),
    "people": (2, False),
    "keeps": (3, False),
    "can": (3, False),
    "sure": (3, False),
    "gap": (3, False),
    "ears": (3, False),
    "bars": (3, False),
    "learn": (4, False),
}


def plain_words(thing):
    """The words of any value that is a command, else None."""
    if type(thing) is not str or "\n" in thing or thing.startswith(" ") or thing.endswith(" ") or "  " in thing:
        return None
    words = tuple(thing.split(" "))
    many, has_text = FORMS.get(words[0], (0, False))
    if has_text and len(words) >= many:
        return (*words[:2], " ".join(words[2:]).replace(";", "\n"))
    return words if many == len(words) else None


class Commands(unittest.TestCase):
    def check(self, thing):
        right = plain_words(thing)
        if right is None:
            error = error_of(command_words, thing)
            self.assertIs(type(error), InvalidCommand, told(thing)[:200])
        else:
            self.assertEqual(command_words(thing), right)
            self.assertEqual(command_words(thing=thing), right)
            self.assertIs(type(command_words(thing)), tuple)
        return right

    def test_examples(self):
        self.assertEqual(command_words("open hall rooms 0;first 0"), ("open", "hall", "rooms 0\nfirst 0"))
        self.assertEqual(command_words("undo"), ("undo",))
        self.assertEqual(command_words("learn hall a somebody"), ("learn", "hall", "a", "somebody"))

    def test_each_form(self):
        words = ("hall", "a", "b;c", "-", ";", "9")
        for first in FORMS:
            for many in range(7):
                right = self.check(" ".join((first, *words[:many])))
                number, has_text = FORMS[first]
                self.assertEqual(right is not None, many + 1 >= number if has_text else many + 1 == number)

    def test_blanks_and_line_feeds(self):
        for first, (many, _) in FORMS.items():
            row = [first, "hall", "a", "somebody"][:many]
            text = " ".join(row)
            self.assertIsNotNone(self.check(text))
            for at in range(len(text) + 1):
                for sign in (" ", "\n", "  "):
                    self.check(text[:at] + sign + text[at:])
            for wrong in (text + " ", " " + text, text.replace(" ", "  ", 1) + " ", text + "\n", "\n" + text, text.upper(),
                          text[1:], "x" + text, text.replace(" ", "\n", 1) + "\n"):  # fmt: skip
                self.assertIsNone(self.check(wrong), wrong)

    def test_texts(self):
        word = str(WARD).replace("\n", ";")
        for first in ("open", "renew", "replace"):
            self.assertEqual(command_words(f"{first} hall {word}"), (first, "hall", str(WARD)))
            self.assertEqual(command_words(f"{first} hall ;;"), (first, "hall", "\n\n"))
            self.assertEqual(command_words(f"{first} ; ;a b; c"), (first, ";", "\na b\n c"))
        # A semicolon is a line feed in texts alone.
        self.assertEqual(command_words("hear ; ;"), ("hear", ";", ";"))
        self.assertEqual(command_words("close a;b"), ("close", "a;b"))

    def test_any_value(self):
        for thing in [*wild_values(), *FORMS, *variants("undo"), ("undo",), ["undo"], ("open", "hall", "x"), b"undo", ""]:
            kept = told(thing)
            self.check(thing)
            self.assertEqual(told(thing), kept)
        self.assertEqual(calls_leave_alone(self, command_words, "open a b c"), ("open", "a", "b c"))

    def test_random_strings(self):
        rng = random.Random(411)
        for _ in range(2000):
            words = [rng.choice((*FORMS, "hall", "a", "-", "", ";", "\n")) for _ in range(rng.randint(1, 5))]
            self.check(" ".join(words))
        for _ in range(500):
            self.check("".join(rng.choice("open undo;\n") for _ in range(rng.randint(0, 9))))


if __name__ == "__main__":
    unittest.main()

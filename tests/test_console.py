"""Point [43], and console.py."""

import itertools
import random
import unittest

from housewardens.bars import fewest_bars
from housewardens.console import Console
from housewardens.days import people_of_log
from housewardens.devices import Device
from housewardens.ears import least_ears
from housewardens.errors import InvalidCommand, NameTaken, NothingToRedo, NothingToUndo, NoWard, TooMany
from housewardens.learning import first_learned
from housewardens.office import Office
from housewardens.onlookers import Onlooker
from housewardens.surely import gap_for, rounds_for
from housewardens.wards import Ward
from tests.helpers import FACES, HARMS, PLAIN, STREET_WARD, WARD, error_of, wild_values
from tests.plain import CLOCKED, DOOR, NOOK, counting_device, plain_can_keep, told
from tests.plain_office import PlainOffice, is_plain_heard, is_plain_name, plain_kept, plain_lot
from tests.test_commands import plain_words
from tests.test_keepers import LEAVING
from tests.test_office import ARMED, BOTH, LATE, NEVER_ARMED, told_by


def word_of(thing):
    """The text of an object as a word of a command."""
    return str(thing).replace("\n", ";")


TEXT = word_of(WARD)
WARDS = (WARD, STREET_WARD, Ward(CLOCKED, FACES, counting_device("a", 2, 2)), Ward(DOOR, FACES, PLAIN))
DEVICES = (PLAIN, BOTH, LATE, NEVER_ARMED, ARMED, counting_device("a", 3, 2), Device((2,), (), (0,)))


def heard_told(word):
    """What a word tells as a heard string, None if none."""
    return "" if word == "-" else word if word and is_plain_heard(word) else None


def harms_told(word, words):
    """What a word tells as harms, None if none."""
    row = () if word == "-" else tuple(word.split(","))
    return row if set(row) <= set(words) and list(row) == sorted(set(row)) else None


def joined(rows, other="none"):
    return " ".join(",".join(str(part) for part in row) if row else "-" for row in rows) if rows else other


class PlainConsole:
    """What a console answers: a string, or the name of the error."""

    def __init__(self):
        self.office = PlainOffice()

    def say(self, command):
        words = plain_words(command)
        if words is None:
            return "InvalidCommand"
        if len(words) == 1:
            if words == ("wards",):
                return " ".join(sorted(self.office.now)) or "none"
            return getattr(self.office, words[0])() or "ok"
        if words[0] == "open":
            return self.opened(*words[1:])
        if words[1] not in self.office.now:
            return "NoWard"
        return self.answered(words[0], words[1], *self.office.now[words[1]], *words[2:])

    def opened(self, name, text):
        if not is_plain_name(name):
            return "InvalidCommand"
        if name in self.office.now:
            return "NameTaken"
        if error_of(Ward.read, text) is not None:
            return "InvalidCommand"
        return self.office.open_ward(name, Ward.read(text)) or "ok"

    def answered(self, word, name, ward, editions, log, *rest):
        if word in ("renew", "replace"):
            if error_of(Device.read, rest[0]) is not None or max(Device.read(rest[0]).shown) >= len(ward.faces):
                return "InvalidCommand"
            deed = self.office.renew if word == "renew" else self.office.swap
            found = deed(name, Device.read(rest[0]))
            return {None: "ok", "NotAlike": "refused", "Harmful": "refused"}.get(found, found)
        if word == "hear":
            heard = heard_told(rest[0])
            return "InvalidCommand" if heard is None else "never" if self.office.hear(name, heard) else "ok"
        if word == "close":
            return self.office.close_ward(name) or "ok"
        if word in ("keeps", "can", "sure", "gap", "ears", "bars"):
            harms = harms_told(rest[0], HARMS if word not in ("sure", "gap") else ("bell", "shut"))
            return "InvalidCommand" if harms is None else self.judged(word, ward, harms)
        if word == "learn":
            letters = heard_told(rest[0])
            if letters is None or rest[1] not in ("empty", "somebody"):
                return "InvalidCommand"
            run = first_learned(ward, Onlooker(letters, tuple(range(len(ward.faces)))), rest[1])
            return "never" if run is None else str(len(run))
        return self.shown(word, ward, log)

    def shown(self, word, ward, log):
        if word == "device":
            return word_of(ward.device)
        if word == "ward":
            return word_of(ward)
        if word == "face":
            state = 0
            for heard in log:
                state = ward.device.led(state, heard)
            return str(ward.device.shown[state])
        if word == "log":
            return " ".join(heard or "-" for heard in log) or "none"
        if word == "lot":
            return joined(plain_lot(ward, log))
        many = people_of_log(ward, log)
        return "many" if many is None else str(many)

    def judged(self, word, ward, harms):
        if word == "keeps":
            return "yes" if set(harms) <= set(plain_kept(ward)) else "no"
        if word == "can":
            return "yes" if plain_can_keep(ward.book, ward.faces, harms) else "no"
        if word in ("sure", "gap"):
            number = (rounds_for if word == "sure" else gap_for)(ward.book, ward.faces, harms=harms)
            return "never" if number is None else str(number)
        if word == "ears":
            return " ".join(row or "-" for row in least_ears(ward.book, ward.faces, harms)) or "none"
        return joined(fewest_bars(ward.book, ward.faces, harms))


def said(console, command):
    """What a console answers, or the name of the error that it raises."""
    error = error_of(console.say, command)
    return console.say(command) if error is None else type(error).__name__


class Answers(unittest.TestCase):
    def test_example(self):
        console = Console()
        for command, answer in (
            (f"open hall {TEXT}", "ok"),
            ("face hall", "0"),
            ("hear hall a", "ok"),
            ("face hall", "1"),
            ("lot hall", "0 0,1 0,1,2 0,2"),
            ("hear hall b", "never"),
            ("people hall", "1"),
            ("keeps hall bell", "yes"),
            ("can hall open,shut", "no"),
            ("undo", "ok"),
            ("log hall", "none"),
            ("learn hall a somebody", "0"),
        ):
            self.assertEqual(console.say(command=command), answer, command)

    def test_the_office(self):
        console = Console()
        self.assertIs(type(console.office), Office)
        self.assertIsInstance(vars(Console)["office"], property)
        self.assertIs(console.office, console.office)
        console.say(f"open hall {TEXT}")
        self.assertEqual(console.office.names_open, ("hall",))
        console.office.hear("hall", "a")
        self.assertEqual(console.say("log hall"), "a")
        self.assertIsNot(Console().office, console.office)
        self.assertEqual(Console().office.names_open, ())
        self.assertEqual(Console().say("wards"), "none")

    def test_all_answers(self):
        console = Console()
        for name, ward in (("street", STREET_WARD), ("hall", WARD)):
            console.say(f"open {name} {word_of(ward)}")
        for command, answer in (
            ("wards", "hall street"),
            ("device hall", "state 0 0;state 1 1;step 0 a 1"),
            ("ward hall", TEXT),
            ("ward street", word_of(STREET_WARD)),
            ("hear street x", "ok"),
            ("hear street -", "ok"),
            ("hear street x", "ok"),
            ("log street", "x - x"),
            ("lot street", "0,1 1"),
            ("people street", "2"),
            ("people hall", "1"),
            ("sure street -", "never"),
            ("gap hall bell,shut", "never"),
            ("keeps hall -", "yes"),
            ("keeps hall shut", "no"),
            ("keeps hall bell,open", "yes"),
            ("can hall shut", "yes"),
            ("ears hall shut", "-"),
            ("ears hall open,shut", "none"),
            ("bars hall open,shut", "0"),
            ("bars hall shut", "-"),
            ("learn hall - empty", "never"),
            ("learn street x empty", "never"),
            (f"renew hall {word_of(BOTH)}", "ok"),
            (f"renew hall {word_of(NEVER_ARMED)}", "refused"),
            (f"replace hall {word_of(NEVER_ARMED)}", "refused"),
            (f"replace hall {word_of(ARMED)}", "ok"),
            ("device hall", "state 1 0"),
            ("close street", "ok"),
            ("wards", "hall"),
            ("undo", "ok"),
            ("wards", "hall street"),
            ("redo", "ok"),
            ("close hall", "ok"),
            ("wards", "none"),
        ):
            self.assertEqual(console.say(command), answer, command)

    def test_many_people(self):
        console = Console()
        console.say(f"open street {word_of(STREET_WARD)}")
        for number in range(1, 9):
            console.say("hear street x")
            self.assertEqual(console.say("people street"), str(number) if number <= 6 else "many")

    def test_ears_bars_sure_and_gap(self):
        console = Console()
        for name, book in (("clocked", CLOCKED), ("door", DOOR), ("nook", NOOK)):
            console.say(f"open {name} {word_of(Ward(book, FACES, PLAIN))}")
        self.assertEqual(console.say("ears clocked open,shut"), "ac")
        self.assertEqual(console.say("bars clocked open,shut"), "-")
        self.assertEqual(console.say("sure door -"), "1")
        self.assertEqual(console.say("gap door -"), "1")
        self.assertEqual(console.say("sure door shut"), "never")
        self.assertEqual(console.say("bars nook open,shut"), "-")
        self.assertEqual(console.say("learn door - empty"), "never")
        console.say(f"open late {word_of(Ward(DOOR, FACES, Device((0, 1), ((0, 'd', 1),), (0, 1))))}")
        self.assertEqual(console.say("learn late - empty"), "2")
        quiet = Ward(CLOCKED, ((True, True),), Device((0,), (), (0,)))
        console.say(f"open quiet {word_of(quiet)}")
        self.assertEqual(console.say("bars quiet bell"), "none")
        self.assertEqual(console.say("ears quiet bell,open,shut"), "none")

    def test_bars_with_more_moves(self):
        book = CLOCKED.__class__((-1, 0), tuple((0, 1, "", (0, 1), (), ()) for _ in range(2)), (0,))
        console = Console()
        console.say(f"open a {word_of(Ward(book, FACES, LEAVING))}")
        self.assertEqual(console.say("bars a open,shut"), joined(fewest_bars(book, FACES, ("open", "shut"))))


class Errors(unittest.TestCase):
    def raised(self, kind, console, command):
        before = told(told_by(console.office))
        error = error_of(console.say, command)
        self.assertIs(type(error), kind, told(command)[:200])
        self.assertEqual(told(told_by(console.office)), before)
        return error

    def console(self):
        console = Console()
        console.say(f"open hall {TEXT}")
        return console

    def test_any_value(self):
        console = self.console()
        for thing in [*wild_values(), ("undo",), ["undo"], b"undo", "Undo", "undo ", " undo", "undo\n", "open hall"]:
            self.raised(InvalidCommand, console, thing)

    def test_names(self):
        console = self.console()
        for name in ("Hall", "hall1", "abcdefghi", "-", ";", "ha,ll"):
            self.raised(InvalidCommand, console, f"open {name} {TEXT}")
            self.raised(InvalidCommand, console, f"open {name} x")
            for command in ("close {}", "renew {} x", "replace {} x", "hear {} B", "device {}", "ward {}", "face {}", "log {}",
                            "lot {}", "people {}", "keeps {} x", "can {} x", "sure {} x", "gap {} open", "ears {} x",
                            "bars {} x", "learn {} B x"):  # fmt: skip
                for some in (name, "none"):
                    error = self.raised(NoWard, console, command.format(some))
                    self.assertEqual(error.name, some)
        for text in (TEXT, "x", ";"):
            self.assertEqual(self.raised(NameTaken, console, f"open hall {text}").name, "hall")

    def test_texts(self):
        console = self.console()
        wrong = (TEXT + ";", ";" + TEXT, TEXT.replace("state 1 1", "state 2 1"), TEXT.replace("rooms", "room"), "x",
                 word_of(PLAIN), word_of(WARD.book), TEXT.replace(";", ";;", 1), TEXT.replace("face no no", "face no maybe"))
        for text in wrong:
            self.raised(InvalidCommand, console, f"open b {text}")
        for text in (TEXT, "state 2 0", "state 0 1", "state 0 0;", "step 0 a 0", "x", word_of(WARD.book)):
            self.raised(InvalidCommand, console, f"renew hall {text}")
            self.raised(InvalidCommand, console, f"replace hall {text}")

    def test_words(self):
        console = self.console()
        for word in ("ba", "aa", "A", "a,b", "1", "--", "a-"):
            self.raised(InvalidCommand, console, f"hear hall {word}")
            self.raised(InvalidCommand, console, f"learn hall {word} empty")
        for word in ("Empty", "-", "nobody", "empty,somebody"):
            self.raised(InvalidCommand, console, f"learn hall a {word}")
        for word in ("shut,bell", "bell,bell", "bell,", ",bell", "none", "Bell", ",", "bell;shut", "open,bell,shut"):
            for command in ("keeps", "can", "sure", "gap", "ears", "bars"):
                self.raised(InvalidCommand, console, f"{command} hall {word}")
        for word in ("open", "bell,open", "open,shut", "bell,open,shut"):
            for command in ("sure", "gap"):
                self.raised(InvalidCommand, console, f"{command} hall {word}")

    def test_undo_and_redo(self):
        console = Console()
        self.raised(NothingToUndo, console, "undo")
        self.raised(NothingToRedo, console, "redo")
        console.say(f"open hall {TEXT}")
        console.say("undo")
        self.raised(NothingToUndo, console, "undo")
        for command in ("wards", "x", "close hall", "open hall x"):
            error_of(console.say, command)
        self.assertEqual(console.say("redo"), "ok")
        self.raised(NothingToRedo, console, "redo")

    def test_too_many(self):
        # Whoever is away goes from one standing to the next one: far more than 60 pictures with a device that counts.
        steps = tuple((state, "", state + 1) for state in range(69))
        ward = Ward(DOOR, FACES, Device((0,) * 70, steps, tuple(range(70))))
        console = Console()
        console.say(f"open long {word_of(ward)}")
        self.assertEqual(self.raised(TooMany, console, "keeps long bell").most, 60)
        for command in ("learn long d empty", f"renew long {word_of(PLAIN)}", f"replace long {word_of(PLAIN)}"):
            self.raised(TooMany, console, command)
        self.assertEqual(console.say("can long bell"), "yes")


class Deeds(unittest.TestCase):
    def commands(self, rng):
        name = rng.choice(("hall", "a", "street", "hall", "a", "Hall", "b"))
        harms = rng.choice(("-", "bell", "shut", "open", "bell,shut", "open,shut", "bell,open,shut", "shut,bell", "x"))
        yield f"open {name} {rng.choice([*map(word_of, WARDS), 'x', word_of(PLAIN)])}"
        yield f"{rng.choice(('renew', 'replace'))} {name} {rng.choice([*map(word_of, DEVICES), 'x'])}"
        for _ in range(3):
            yield f"hear {name} {rng.choice(('-', 'a', 'b', 'd', 'x', 'ab', 'ba'))}"
        yield f"{rng.choice(('undo', 'redo', 'undo', 'wards'))}"
        yield f"{rng.choice(('device', 'ward', 'face', 'log', 'lot', 'people', 'close'))} {name}"
        yield f"{rng.choice(('keeps', 'can', 'sure', 'gap'))} {name} {harms}"
        yield f"{rng.choice(('ears', 'bars'))} {name} {harms}"
        yield f"learn {name} {rng.choice(('-', 'a', 'd', 'xa'))} {rng.choice(('empty', 'somebody', 'x'))}"

    def test_rows_of_many_commands(self):
        rng = random.Random(421)
        found = {}
        for _ in range(10):
            console, model = Console(), PlainConsole()
            for _ in range(12):
                for command in self.commands(rng):
                    answer = said_once(console, command)
                    self.assertEqual(answer, model.say(command), command)
                    self.assertEqual(told(told_by(console.office)), told(model.office.told()))
                    found[command.split(" ")[0], answer] = True
        for row in (("hear", "never"), ("renew", "refused"), ("replace", "refused"), ("replace", "ok"), ("undo", "ok"),
                    ("redo", "ok"), ("close", "ok"), ("open", "NameTaken"), ("sure", "never"), ("renew", "ok")):  # fmt: skip
            self.assertIn(row, found)

    def test_each_command_by_itself(self):
        for ward in WARDS:
            console, model = Console(), PlainConsole()
            for some in (console, model):
                some.say(f"open a {word_of(ward)}")
            words = ("-", "a", "bell", "shut", "bell,shut", "bell,open,shut", "open", "ab", "x", "d")
            for first, word in itertools.product(("keeps", "can", "sure", "gap", "ears", "bars"), words):
                command = f"{first} a {word}"
                self.assertEqual(said(console, command), model.say(command), command)
            for letters, word in itertools.product(("-", "a", "d", "x", "abx"), ("empty", "somebody")):
                command = f"learn a {letters} {word}"
                self.assertEqual(said(console, command), model.say(command), command)


def said_once(console, command):
    """What a console answers, said just once; the name of the error if it raises one."""
    answers = []
    error = error_of(lambda: answers.append(console.say(command)))
    return type(error).__name__ if error else answers[0]


if __name__ == "__main__":
    unittest.main()

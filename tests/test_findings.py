"""Points [41] and [42], and findings.py."""

import itertools
import random
import unittest

from housewardens import bars, catchers, catching, days, ears, keepers, learning, surepapers, walks
from housewardens.alike import alike_holds, judge_alike
from housewardens.books import Book
from housewardens.devices import Device
from housewardens.enough import judge_many, many_holds
from housewardens.findings import finding_holds, told_by_texts
from housewardens.guests import Guest
from housewardens.keeppapers import keeping_holds
from housewardens.lots import lot_behind
from housewardens.onlookers import Onlooker
from housewardens.wards import Ward, along, judge_ward, ward_holds
from tests.helpers import (
    FACES,
    HALL,
    HARMS,
    HUGE,
    ONE_FACE,
    PLAIN,
    STREET,
    STREET_WARD,
    WARD,
    calls_leave_alone,
    error_of,
    plain_runs,
    some_run,
    some_wards,
    variants,
    wild_values,
)
from tests.plain import ALL_SAFE, CLOCKED, DOOR, NOOK, OPEN_SHUT, QUIET, told
from tests.plain_guests import BELLS, CALM, CATCHER, CAUGHT_WARD, LOUD_GUEST, NO_MOVES, THIEF, some_guarded
from tests.plain_sights import EAR
from tests.plain_office import is_plain_heard
from tests.test_office import BOTH, NEVER_ARMED

EXAMPLE = ("lot", str(WARD), ("a",), ((0,), (0, 1), (0, 1, 2), (0, 2)))
ONE = Device((0,), (), (0,))
MANY_RUN = ((0, 1), (0, 1))


def raw_findings():
    """Findings that hold, of each kind, in which objects stand as they are."""
    for harms in ((), ("bell",), ("shut",), HARMS):
        yield ("ward", WARD, harms, judge_ward(WARD, harms))
    yield ("people", STREET_WARD, MANY_RUN, walks.people_paper(STREET_WARD, MANY_RUN))
    yield ("people", STREET_WARD, (), walks.people_paper(STREET_WARD, ()))
    for many in (0, 1, 2, 6):
        yield ("many", STREET_WARD, many, ((0, 1), 0), judge_many(STREET_WARD, many, ((0, 1), 0)))
    yield EXAMPLE
    yield ("lot", WARD, (), ((1,),))
    for other in (BOTH, NEVER_ARMED):
        yield ("beside", WARD, other, judge_alike(WARD, other))
    for book, choice, letters in ((HALL, None, None), (CLOCKED, (0, 1), "ac"), (CLOCKED, (0,), ""), (QUIET, None, "ab")):
        paper = keepers.judge_keeping(book, FACES, OPEN_SHUT, ears=letters, choice=choice)
        yield ("keeping", book, FACES, OPEN_SHUT, letters, choice, paper)
    yield ("keeping", HALL, FACES, ("shut",), None, None, keepers.judge_keeping(HALL, FACES, ("shut",)))
    for choice in (None, (0, 1), (1,)):
        yield ("ears", CLOCKED, FACES, OPEN_SHUT, choice, ears.ears_paper(CLOCKED, FACES, OPEN_SHUT, choice=choice))
    for letters in (None, "ac", ""):
        paper = ears.choices_paper(CLOCKED, FACES, OPEN_SHUT, ears=letters)
        yield ("choices", CLOCKED, FACES, OPEN_SHUT, letters, paper)
    for faces in (ALL_SAFE, ALL_SAFE[:1]):
        yield ("surely", DOOR, faces, (), surepapers.judge_surely(DOOR, faces))
        yield ("surely", DOOR, faces, ("bell", "shut"), surepapers.judge_surely(DOOR, faces, harms=("bell", "shut")))
        for number in (0, 1, 5):
            yield ("rounds", DOOR, faces, number, ("bell",), surepapers.judge_rounds(DOOR, faces, number, harms=("bell",)))
            yield ("gap", DOOR, faces, number, ("shut",), surepapers.judge_gap(DOOR, faces, number, harms=("shut",)))
    for book, faces, harms in ((QUIET, FACES, OPEN_SHUT), (NOOK, FACES, OPEN_SHUT), (STREET, ((True, True),), ("bell",))):
        yield ("bars", book, faces, harms, bars.bars_paper(book, faces, harms))
    for number in (1, 2):
        yield ("catch", CAUGHT_WARD, THIEF, number, catching.judge_catching(CAUGHT_WARD, THIEF, number))
        yield ("guest", CALM, BELLS, THIEF, number, catchers.judge_guest(CALM, BELLS, THIEF, number))
    yield ("catch", Ward(CALM, BELLS, Device((1,), (), (0,))), THIEF, 1, ("early", ()))
    yield ("doubt", Ward(CALM, BELLS, ONE), THIEF, 1, catching.doubt_of(Ward(CALM, BELLS, ONE), THIEF, 1))
    yield ("guest", CALM, BELLS, LOUD_GUEST, 1, catchers.judge_guest(CALM, BELLS, LOUD_GUEST, 1))
    for word in ("empty", "somebody"):
        yield ("learned", STREET_WARD, "x", (0,), word, learning.judge_learned(STREET_WARD, EAR, word))
        onlooker = Onlooker("a", (7, 2))
        yield ("learned", WARD, "a", (7, 2), word, learning.judge_learned(WARD, onlooker, word))
    for many in (0, 1, 6):
        yield ("day", WARD, ("a",), many, days.judge_day(WARD, ("a",), many))
        yield ("day", STREET_WARD, ("x", "x"), many, days.judge_day(STREET_WARD, ("x", "x"), many))


def findings():
    """Findings that hold, by texts."""
    return [told_by_texts(row) for row in raw_findings()]


def plain_told(thing):
    """Any value with the texts of objects, at any depth of tuples."""
    if type(thing) in (Book, Device, Ward, Guest):
        return str(thing)
    return tuple(plain_told(part) for part in thing) if type(thing) is tuple else thing


def read_or_none(kind, text):
    """The object of a text, None if it is no text of one."""
    if type(text) is not str or error_of(kind.read, text) is not None:
        return None
    return kind.read(text)


def in_place(paper, word):
    """A paper with its device in the place of the text; None if something else stands there."""
    if type(paper) is tuple and len(paper) == 3 and paper[0] == word:
        device = read_or_none(Device, paper[1])
        return None if device is None else (word, device, paper[2])
    return paper


def all_in_place(pairs):
    """Pairs of anything and a paper, likewise; None likewise."""
    if type(pairs) is not tuple or any(type(pair) is not tuple or len(pair) != 2 for pair in pairs):
        return pairs
    papers = [in_place(paper, "kept") for _, paper in pairs]
    return None if None in papers else tuple((pair[0], paper) for pair, paper in zip(pairs, papers))


def is_number(thing, low, high=10**50):
    return type(thing) is int and low <= thing <= high


def are_words(thing, words):
    if type(thing) is not tuple or any(type(part) is not str or part not in words for part in thing):
        return False
    return list(thing) == sorted(set(thing))


def are_plain_faces(thing):
    if type(thing) is not tuple or not thing:
        return False
    return all(type(row) is tuple and len(row) == 2 and all(type(part) is bool for part in row) for row in thing)


def are_plain_ears(thing):
    return thing is None or is_plain_heard(thing)


def is_plain_choice(faces, thing):
    if thing is None:
        return True
    if type(thing) is not tuple or not thing or not all(is_number(part, 0, len(faces) - 1) for part in thing):
        return False
    return list(thing) == sorted(set(thing))


def is_plain_finding(thing):
    """Whether any value is a finding that holds, by the checkers of the parts."""
    if type(thing) is not tuple or not thing or type(thing[0]) is not str:
        return False
    kind, parts = thing[0], list(thing[1:])
    many = {"ward": 3, "people": 3, "many": 4, "lot": 3, "beside": 3, "keeping": 6, "ears": 5, "choices": 5, "surely": 4,
            "rounds": 5, "gap": 5, "bars": 4, "catch": 4, "doubt": 4, "guest": 5, "learned": 5, "day": 4}  # fmt: skip
    if many.get(kind) != len(parts):
        return False
    of_ward = kind in ("ward", "people", "many", "lot", "beside", "catch", "doubt", "learned", "day")
    parts[0] = read_or_none(Ward if of_ward else Book, parts[0])
    if parts[0] is None:
        return False
    if of_ward:
        return is_plain_finding_of_ward(kind, *parts)
    return are_plain_faces(parts[1]) and is_plain_finding_of_book(kind, *parts)


def is_plain_finding_of_ward(kind, ward, *parts):
    from housewardens.lots import is_lot
    from housewardens.logs import is_log
    from housewardens.wards import is_picture, is_run

    paper = parts[-1]
    if kind == "ward":
        return are_words(parts[0], HARMS) and ward_holds(ward, parts[0], paper)
    if kind == "people":
        return is_run(ward, parts[0]) and walks.people_holds(ward, parts[0], paper)
    if kind == "many":
        return is_number(parts[0], 0, 6) and is_picture(ward, parts[1]) and many_holds(ward, *parts)
    if kind == "lot":
        return is_log(parts[0]) and is_lot(ward.book, paper) and paper != () and lot_behind(ward, parts[0]) == paper
    if kind == "beside":
        device = read_or_none(Device, parts[0])
        return device is not None and max(device.shown) < len(ward.faces) and alike_holds(ward, device, paper)
    if kind in ("catch", "doubt"):
        guest = read_or_none(Guest, parts[0])
        holds = catching.catching_holds if kind == "catch" else catching.doubt_holds
        return guest is not None and is_number(parts[1], 1) and holds(ward, guest, parts[1], paper)
    if kind == "learned":
        letters, classes, word = parts[:3]
        if letters is None or not are_plain_ears(letters) or type(classes) is not tuple:
            return False
        if len(classes) != len(ward.faces) or not all(is_number(part, 0) for part in classes):
            return False
        return word in ("empty", "somebody") and learning.learned_holds(ward, Onlooker(letters, classes), word, paper)
    return is_log(parts[0]) and is_number(parts[1], 0, 6) and days.day_holds(ward, *parts)


def is_plain_finding_of_book(kind, book, faces, *parts):
    paper = parts[-1]
    if kind in ("surely", "rounds", "gap"):
        if not are_words(parts[-2], ("bell", "shut")):
            return False
        if kind == "surely":
            return surepapers.surely_holds(book, faces, parts[0], paper)
        holds = surepapers.rounds_hold if kind == "rounds" else surepapers.gap_holds
        return is_number(parts[0], 0) and holds(book, faces, *parts)
    if kind == "guest":
        guest, paper = read_or_none(Guest, parts[0]), in_place(paper, "caught")
        return None not in (guest, paper) and is_number(parts[1], 1) and catchers.guest_holds(book, faces, guest, parts[1], paper)
    if not are_words(parts[0], HARMS):
        return False
    if kind == "keeping":
        letters, choice, paper = parts[1], parts[2], in_place(paper, "kept")
        if not are_plain_ears(letters) or not is_plain_choice(faces, choice) or paper is None:
            return False
        return keeping_holds(book, faces, parts[0], paper, ears=letters, choice=choice)
    place = 2 if kind == "bars" else 1
    if type(paper) is tuple and len(paper) > place:
        paper = (*paper[:place], all_in_place(paper[place]), *paper[place + 1 :])
    if kind == "bars":
        return bars.bars_paper_holds(book, faces, parts[0], paper)
    if kind == "ears":
        return is_plain_choice(faces, parts[1]) and ears.ears_paper_holds(book, faces, parts[0], paper, choice=parts[1])
    return are_plain_ears(parts[1]) and ears.choices_paper_holds(book, faces, parts[0], paper, ears=parts[1])


class Findings(unittest.TestCase):
    def check(self, thing):
        found = finding_holds(thing)
        self.assertIs(found, bool(is_plain_finding(thing)), told(thing)[:500])
        return found

    def test_examples(self):
        text = str(WARD)
        self.assertIs(finding_holds(("lot", text, ("a",), ((0,), (0, 1), (0, 1, 2), (0, 2)))), True)
        self.assertIs(finding_holds(thing=("lot", text, ("a",), ((0,), (0, 1), (0, 2)))), False)
        self.assertIs(finding_holds(("lot", text, ("a", "a"), ())), False)

    def test_of_each_kind(self):
        rows = findings()
        self.assertEqual(len({row[0] for row in rows}), 17)
        for row in rows:
            self.assertIs(self.check(row), True, row)
            for at in range(len(row)):
                self.assertIs(self.check(row[:at] + row[at + 1 :]), False)
                self.assertIs(self.check(row[: at + 1] + row[at:]), False)
            self.assertIs(finding_holds(list(row)), False)
            self.assertIs(finding_holds((row,)), False)

    def test_objects_where_texts_stand(self):
        for row, text in zip(raw_findings(), findings()):
            self.assertIs(self.check(row), row == text)

    def test_other_words_numbers_and_texts(self):
        rows = findings()
        words = [row[0] for row in rows]
        texts = [str(WARD), str(STREET_WARD), str(HALL), str(CLOCKED), str(PLAIN), str(THIEF), str(NO_MOVES), "", "rooms 0"]
        for row in rows:
            for word in {*words, "kept", "Ward", ""}:
                self.check((word, *row[1:]))
            for at in range(1, len(row) - 1):
                for part in (*texts, 0, 1, 2, 6, True, -1, None, (), ("bell",), ("shut", "bell"), ("open",), (0,), (0, 1),
                             "a", "ba", "xy", FACES, ONE_FACE, [FACES], "empty", "somebody", ("a",), ((0, 1), 0), WARD):  # fmt: skip
                    self.check((*row[:at], part, *row[at + 1 :]))
            for other in rows[::3]:
                self.check((*row[:-1], other[-1]))

    def test_any_value(self):
        parts = [None, True, 0, 1, -1, "", "a", "kept", str(ONE), (), [], (0,), ((0,),), ONE, WARD]
        for thing in wild_values():
            self.assertIs(calls_leave_alone(self, finding_holds, thing), False, thing)
        for row in findings():
            for thing in variants(row[1:-1], parts):
                if type(thing) is tuple:
                    self.check((row[0], *thing, row[-1]))
            rows = list(variants(row[-1], parts))
            for thing in rows[:: max(1, len(rows) // 250)]:
                self.check((*row[:-1], thing))

    def test_texts_that_are_nearly_right(self):
        for row in findings():
            text = row[1]
            for other in (text + "\n", text + " ", text.replace(" ", "  ", 1), text.replace("\n", ";"), text[:-1], text + "9",
                          text.upper(), "\n" + text, text.replace("\n", "\n\n", 1), text.split("\n")):  # fmt: skip
                self.check((row[0], other, *row[2:]))

    def test_numbers_of_people(self):
        paper = days.judge_day(STREET_WARD, ("x", "x"), 2)
        for many, right in ((2, True), (3, True), (6, True), (0, False), (1, False), (True, False), (-1, False), ("2", False)):
            self.assertIs(self.check(("day", str(STREET_WARD), ("x", "x"), many, paper)), right)
            self.check(("many", str(STREET_WARD), many, ((1,), 0), ("run", ((0, 1), (1,)))))

    def test_classes_of_onlookers(self):
        paper = learning.judge_learned(WARD, Onlooker("a", (0, 1)), "somebody")
        for classes, right in (((0, 1), True), ((9, 4), True), ((0,), False), ((0, 1, 2), False), ((), False), ([0, 1], False)):
            self.assertIs(self.check(("learned", str(WARD), "a", classes, "somebody", paper)), right)

    def test_harms_of_part_six(self):
        paper = surepapers.judge_surely(DOOR, ALL_SAFE)
        for harms, right in (((), True), (("bell",), True), (("bell", "shut"), True), (("open",), False),
                             (("bell", "open", "shut"), False), (("shut", "bell"), False), (["bell"], False)):  # fmt: skip
            self.assertIs(self.check(("surely", str(DOOR), ALL_SAFE, harms, paper)), right)

    def test_devices_with_numbers_of_no_face(self):
        strange = Device((0, 2), (), (0, 0))
        self.assertIs(self.check(("beside", str(WARD), str(strange), ("parted", ("a",)))), False)
        rows = learning.lots_of_pictures(STREET_WARD, EAR)
        text = str(STREET_WARD).replace("state 0 0", "state 1 0")
        self.assertIs(self.check(("learned", text, "x", (0,), "empty", ("never", rows))), False)
        paper = keepers.judge_keeping(HALL, FACES, ("shut",))
        self.assertIs(self.check(("keeping", str(HALL), FACES, ("shut",), None, None, ("kept", str(strange), paper[2]))), False)

    def test_books_with_far_more_bars_than_a_paper_has(self):
        text = "rooms 0\nfirst 0" + "\nmove 0 0 - 0 - -" * 200
        self.assertIs(finding_holds(("bars", text, ONE_FACE, ("bell",), ("no bar", 100, ()))), False)
        self.assertIs(finding_holds(("bars", text, ONE_FACE, ("bell",), ("barred", 100, (((), ()),), ()))), False)

    def test_books_with_far_more_ears_and_choices_than_a_paper_has(self):
        text = "rooms 0\nfirst 0" + "".join(f"\nmove 0 0 {letter} 0 - -" for letter in "abcdefghijklmnopqrstuvwxyz")
        self.assertIs(finding_holds(("ears", text, ONE_FACE, ("bell",), None, ("ears", (), ()))), False)
        many = ONE_FACE * 1500
        self.assertIs(finding_holds(("choices", "rooms 0\nfirst 0", many, ("bell",), None, ("choices", (), ()))), False)
        rows = tuple(((at,), ("kept", str(Device((at,), (), (0,))), ((((0,),), 0),))) for at in range(40))
        thing = ("choices", "rooms 0\nfirst 0", ONE_FACE * 40, ("bell",), None, ("choices", rows, ()))
        self.assertIs(finding_holds(thing), True)
        thing = ("choices", "rooms 0\nfirst 0", ONE_FACE * 40, ("bell",), None, ("choices", rows[1:], ()))
        self.assertIs(finding_holds(thing), False)


class ToldByTexts(unittest.TestCase):
    def test_objects(self):
        for thing in (HALL, PLAIN, WARD, THIEF):
            self.assertEqual(told_by_texts(thing), str(thing))
            self.assertEqual(told_by_texts(paper=(thing, (0, (thing,)))), (str(thing), (0, (str(thing),))))

    def test_any_value(self):
        for thing in [*wild_values(), [HALL], {"a": HALL}, (EAR, [PLAIN], THIEF), ((((((((((HALL,),),),),),),),),),), EAR]:
            found = calls_leave_alone(self, told_by_texts, thing)
            self.assertEqual(told(found), told(plain_told(thing)))
        self.assertIs(told_by_texts(EAR), EAR)

    def test_papers_of_all_parts(self):
        rng = random.Random(401)
        for ward in some_wards(12, 401):
            run, guest = some_run(rng, ward, 3), some_guarded(rng)[1]
            text, harms = str(ward), rng.choice(((), ("bell",), OPEN_SHUT, HARMS))
            sure, number = rng.choice(((), ("bell",), ("bell", "shut"))), rng.randint(0, 3)
            onlooker, word = Onlooker("ab", tuple(range(len(ward.faces)))), rng.choice(("empty", "somebody"))
            picture = along(ward, run)[-1]
            book, faces, more = ward.book, ward.faces, {"most": HUGE}
            log = tuple("ab"[at % 2] for at in range(number))
            rows = [
                ("ward", ward, harms, judge_ward(ward, harms, **more)),
                ("people", ward, run, walks.people_paper(ward, run)),
                ("many", ward, 2, picture, judge_many(ward, 2, picture)),
                ("beside", ward, ward.device, judge_alike(ward, ward.device, **more)),
                ("surely", book, faces, sure, surepapers.judge_surely(book, faces, harms=sure, **more)),
                ("rounds", book, faces, number, sure, surepapers.judge_rounds(book, faces, number, harms=sure, **more)),
                ("gap", book, faces, number, sure, surepapers.judge_gap(book, faces, number, harms=sure, **more)),
                ("catch", ward, guest, number + 1, catching.judge_catching(ward, guest, number + 1, **more)),
                ("learned", ward, "ab", onlooker.classes, word, learning.judge_learned(ward, onlooker, word, **more)),
                ("day", ward, log, number, days.judge_day(ward, log, number)),
            ]
            paper = keepers.judge_keeping(book, faces, harms, ears="ab", **more)
            rows.append(("keeping", book, faces, harms, "ab", None, paper))
            for row in rows:
                self.assertIs(finding_holds(told_by_texts(row)), True, told(row)[:500])
                self.assertEqual(told_by_texts(row)[1] in (text, str(book)), True)

    def test_runs_of_small_wards(self):
        for run, _ in itertools.islice(plain_runs(STREET_WARD, 2), 12):
            row = ("people", STREET_WARD, run, walks.people_paper(STREET_WARD, run))
            self.assertIs(finding_holds(told_by_texts(row)), True)
        self.assertIs(finding_holds(told_by_texts(("guest", CALM, BELLS, THIEF, 2, ("caught", CATCHER, ())))), False)


if __name__ == "__main__":
    unittest.main()

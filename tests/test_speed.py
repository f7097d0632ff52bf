"""Calls as large as the document lets them be answer in a short time."""

import itertools
import random
import time
import unittest

from housewardens.alike import alike_holds, are_alike, judge_alike, least_device, parting_log
from housewardens.bars import bars_paper, bars_paper_holds, fewest_bars
from housewardens.books import Book, choices
from housewardens.catchers import guest_holds, judge_guest, least_catch
from housewardens.catching import catching_holds, doubt_holds, doubt_of, judge_catching, least_ticks
from housewardens.console import Console
from housewardens.crowds import crowds_behind, crowds_met
from housewardens.days import day_holds, judge_day, people_of_log, run_of_log
from housewardens.devices import Device
from housewardens.ears import choices_paper, choices_paper_holds, ears_paper, ears_paper_holds
from housewardens.enough import enough, fewest_for, judge_many, many_holds, run_for
from housewardens.errors import TooMany
from housewardens.findings import finding_holds, told_by_texts
from housewardens.guests import Guest, guest_moves
from housewardens.keepers import judge_keeping
from housewardens.keeppapers import keeping_holds
from housewardens.learning import judge_learned, learned_holds
from housewardens.logs import first_log, logs_that_come
from housewardens.lots import stands_met
from housewardens.onlookers import Onlooker
from housewardens.sights import do_look_alike, possible_crowds, possible_pictures
from housewardens.surely import gap_for, rounds_by_lot
from housewardens.surepapers import gap_holds, judge_gap, judge_rounds, rounds_hold
from housewardens.visits import cases_behind, is_visit, sights_along, visit_log
from housewardens.walks import can_make, people_holds, people_paper
from housewardens.wards import Ward, along, log_of, pictures_of
from tests.helpers import HUGE, some_run
from tests.plain import BUSY, OPEN_SHUT, THREE_FACES, counting_device
from tests.plain_guests import BELLS, CALM, LOUD_GUEST, THIEF

# Far more than a call takes here: so that a slow machine does not fail, and a search without end does.
SECONDS = 6
RING = ((False, True), (True, True), (True, True))
MANY_LOTS = Book(
    (-1, -1, 1, 1),
    (
        (0, 2, "b", (1, 2), (), ()),
        (0, 3, "", (0, 1), (), ()),
        (1, 1, "b", (0, 2), (), ()),
        (1, 0, "", (0, 1), (), ()),
        (2, 1, "b", (1, 2), (), ()),
        (2, 0, "b", (0, 1), (), ()),
        (3, 2, "", (0, 1), (), ()),
        (3, 1, "c", (0, 2), (), ()),
    ),
    (0,),
)
BUSY_HOUSE = Book(
    (0, 1, -1),
    (
        (0, 0, "", (0, 1, 2), (), ()),
        (0, 1, "a", (0, 1), (), ()),
        (1, 2, "b", (0, 2), (), ()),
        (1, 1, "", (0, 1, 2), (), ()),
        (2, 2, "ab", (0, 1, 2), (), ()),
        (2, 0, "", (1, 2), (), ()),
    ),
    (0, 1, 2),
)
BUSY_GUEST = Guest(
    (-1, 0, 5),
    (
        (0, 1, "a", (0, 1, 2)),
        (1, 2, "", (0, 1, 2)),
        (2, 1, "b", (0, 1, 2)),
        (2, 2, "", (0, 2)),
        (1, 0, "g", (1, 2)),
    ),
)


def large_device(rng, states=6, faces=3):
    strings = ["".join(row) for many in range(4) for row in itertools.combinations("abcde", many)]
    keys = sorted(rng.sample([(state, heard) for state in range(states) for heard in strings], 40))
    steps = tuple((*key, rng.randrange(states)) for key in keys)
    shown = tuple(rng.randrange(faces) for _ in range(states))
    return Device(shown, steps, tuple(rng.randrange(states) for _ in range(states)))


class Speed(unittest.TestCase):
    def quickly(self, call, *values, **more):
        begin = time.monotonic()
        found = call(*values, **more)
        self.assertLess(time.monotonic() - begin, SECONDS, call)
        return found

    def test_people(self):
        rng = random.Random(201)
        for ward in (Ward(BUSY, THREE_FACES, counting_device("a", 6, 3)), Ward(MANY_LOTS, RING, large_device(rng))):
            run = some_run(rng, ward, 40)
            paper = self.quickly(people_paper, ward, run)
            self.assertIs(self.quickly(people_holds, ward, run, paper), True)
            self.quickly(can_make, ward, run, 6)
            for many in (5, 6):
                pairs = self.quickly(crowds_met, ward, many, most=HUGE)
                self.quickly(crowds_behind, ward, pairs[-1])
            pictures = pictures_of(ward, most=HUGE)
            for picture in pictures[::11]:
                self.quickly(run_for, ward, 6, picture)
                for many in (2, 6):
                    paper = self.quickly(judge_many, ward, many, picture)
                    self.assertIs(self.quickly(many_holds, ward, many, picture, paper), True)
                self.quickly(fewest_for, ward, picture)
            self.quickly(enough, ward)

    def test_one_standing_with_all_moves(self):
        moves = tuple((0, at % 4, "abcde"[at % 5] * (at > 2), (0,), (), ()) for at in range(8))
        ward = Ward(Book((0, 1, 2, -1), moves, (0,)), RING, counting_device("a", 6))
        self.assertGreater(len(self.quickly(crowds_met, ward, 6)), 100)
        run = (tuple(range(8)),) * 40
        paper = self.quickly(people_paper, ward, run)
        self.assertIs(self.quickly(people_holds, ward, run, paper), True)

    def test_lots_and_logs(self):
        rng = random.Random(202)
        for book in (BUSY, MANY_LOTS):
            ward = Ward(book, RING, large_device(rng))
            self.assertGreater(len(self.quickly(stands_met, ward, most=1000)), 20)
            self.quickly(first_log, ward, (0, 1, 2, 3), most=1000)
            self.quickly(lambda: list(itertools.islice(logs_that_come(ward, 8), 200)))
            paper = self.quickly(judge_alike, ward, ward.device, most=1000)
            self.assertIs(self.quickly(alike_holds, ward, ward.device, paper), True)

    def test_devices(self):
        rng = random.Random(203)
        for _ in range(5):
            one, other = large_device(rng), large_device(rng)
            self.quickly(parting_log, one, other)
            least = self.quickly(least_device, one)
            self.assertIs(self.quickly(are_alike, least, one), True)

    def test_keepers(self):
        for book, faces, harms in itertools.product((BUSY, MANY_LOTS), (THREE_FACES, RING), (OPEN_SHUT, ("bell",))):
            paper = self.quickly(judge_keeping, book, faces, harms, most=100)
            self.assertIs(self.quickly(keeping_holds, book, faces, harms, paper), True)
            paper = self.quickly(ears_paper, book, faces, harms, most=HUGE)
            self.assertIs(self.quickly(ears_paper_holds, book, faces, harms, paper), True)
            paper = self.quickly(choices_paper, book, faces, harms, most=HUGE)
            self.assertIs(self.quickly(choices_paper_holds, book, faces, harms, paper), True)

    def test_all_bars(self):
        self.assertEqual(self.quickly(fewest_bars, MANY_LOTS, RING, ("bell",), most=HUGE), ())
        paper = self.quickly(bars_paper, MANY_LOTS, RING, ("bell",), most=HUGE)
        self.assertEqual(len(paper[2]), 93)
        self.assertIs(self.quickly(bars_paper_holds, MANY_LOTS, RING, ("bell",), paper), True)

    def test_rounds_and_gaps(self):
        for book, harms in itertools.product((BUSY, MANY_LOTS), ((), ("bell", "shut"))):
            self.quickly(rounds_by_lot, book, THREE_FACES, harms=harms, most=100)
            self.quickly(gap_for, book, THREE_FACES, harms=harms, most=100)
            for number in (0, 1, 59, 60):
                paper = self.quickly(judge_gap, book, THREE_FACES, number, harms=harms, most=100)
                self.assertIs(self.quickly(gap_holds, book, THREE_FACES, number, harms, paper), True)
            for number in (0, 3, 200):
                paper = self.quickly(judge_rounds, book, THREE_FACES, number, harms=harms, most=100)
                self.assertIs(self.quickly(rounds_hold, book, THREE_FACES, number, harms, paper), True)

    def test_guests(self):
        for book, guest in ((CALM, THIEF), (BUSY_HOUSE, BUSY_GUEST), (BUSY_HOUSE, LOUD_GUEST)):
            for faces, ticks in itertools.product((BELLS, THREE_FACES), (1, 3, 6)):
                paper = self.quickly(self.quietly, judge_guest, book, faces, guest, ticks, most=1000)
                if paper is not None:
                    self.assertIs(self.quickly(guest_holds, book, faces, guest, ticks, paper), True)
                for device in (counting_device("a", 6, 2), counting_device("ag", 6, 3), Device((0,), (), (0,))):
                    ward = Ward(book, faces, device)
                    paper = self.quickly(judge_catching, ward, guest, ticks, most=HUGE)
                    self.assertIs(self.quickly(catching_holds, ward, guest, ticks, paper), True)
                    self.quickly(least_ticks, ward, guest, ticks, most=HUGE)
                    self.quickly(self.quietly, doubt_of, ward, guest, ticks, most=1000)
            self.quickly(self.quietly, least_catch, book, BELLS, guest, 6, most=1000)

    def quietly(self, call, *values, **more):
        """What a call returns, None if it raises TooMany."""
        try:
            return call(*values, **more)
        except TooMany:
            return None

    def test_visits(self):
        ward = Ward(BUSY_HOUSE, BELLS, counting_device("a", 6, 3))
        visit = self.long_visit(random.Random(204), ward, BUSY_GUEST, 40)
        self.assertIs(self.quickly(is_visit, ward, BUSY_GUEST, visit), True)
        log = self.quickly(visit_log, ward, BUSY_GUEST, visit)
        self.assertEqual(len(log), 40)
        self.assertTrue(self.quickly(cases_behind, ward, BUSY_GUEST, log))
        self.assertIs(self.quickly(doubt_holds, ward, BUSY_GUEST, 1, (visit, visit)), False)
        self.quickly(cases_behind, ward, BUSY_GUEST, ("a",) * 60)

    def long_visit(self, rng, ward, guest, length):
        visit = ()
        for _ in range(length):
            case, state = sights_along(ward, guest, visit)[-1]
            face = ward.device.shown[state]
            choice = rng.choice(choices(ward.book, case[0], face))
            visit += ((choice, rng.choice(guest_moves(guest, case[1], face))),)
        return visit

    def test_sights(self):
        rng = random.Random(205)
        for book in (BUSY, MANY_LOTS):
            ward = Ward(book, RING, large_device(rng))
            run = some_run(rng, ward, 40)
            for onlooker in (Onlooker("", (0, 0, 0)), Onlooker("a", (0, 0, 1)), Onlooker("abcde", (0, 1, 2))):
                self.quickly(possible_pictures, ward, onlooker, run)
                self.quickly(possible_crowds, ward, onlooker, run, 6)
                self.assertIs(self.quickly(do_look_alike, ward, onlooker, run, run), True)

    def test_learning(self):
        rng = random.Random(206)
        for book, device in itertools.product((BUSY, MANY_LOTS), (large_device(rng), counting_device("a", 6, 3))):
            ward = Ward(book, RING, device)
            for letters, classes in (("", (0, 0, 0)), ("a", (0, 1, 0)), ("abc", (0, 1, 2))):
                onlooker = Onlooker(letters, classes)
                for word in ("empty", "somebody"):
                    paper = self.quickly(self.quietly, judge_learned, ward, onlooker, word, most=200)
                    if paper is not None:
                        self.assertIs(self.quickly(learned_holds, ward, onlooker, word, paper), True)

    def test_days(self):
        rng = random.Random(207)
        for book in (BUSY, MANY_LOTS):
            ward = Ward(book, RING, large_device(rng))
            run = some_run(rng, ward, 60)
            log = log_of(ward, run)
            self.assertLessEqual(self.quickly(run_of_log, ward, log, along(ward, run)[-1][0]), run)
            for some in (log, log[:20], log[:19] + ("z",)):
                self.quickly(people_of_log, ward, some)
                paper = self.quickly(judge_day, ward, some, 6)
                self.assertIs(self.quickly(day_holds, ward, some, 6, paper), True)
                finding = told_by_texts(("day", ward, some, 6, paper))
                self.assertIs(self.quickly(finding_holds, finding), True)

    def test_findings(self):
        paper = bars_paper(MANY_LOTS, RING, ("bell",), most=HUGE)
        finding = told_by_texts(("bars", MANY_LOTS, RING, ("bell",), paper))
        self.assertIs(self.quickly(finding_holds, finding), True)
        paper = ears_paper(BUSY, THREE_FACES, OPEN_SHUT, most=HUGE)
        finding = self.quickly(told_by_texts, ("ears", BUSY, THREE_FACES, OPEN_SHUT, None, paper))
        self.assertIs(self.quickly(finding_holds, finding), True)

    def test_office_and_console(self):
        rng = random.Random(208)
        console = Console()
        wards = [Ward(book, RING, large_device(rng)) for book in (BUSY, MANY_LOTS, BUSY, MANY_LOTS, BUSY)]
        for name, ward in zip("abcde", wards):
            text = str(ward).replace("\n", ";")
            self.assertEqual(self.quickly(console.say, f"open {name} {text}"), "ok")
            for heard in log_of(ward, some_run(rng, ward, 38)):
                self.assertEqual(self.quickly(console.say, f"hear {name} {heard or '-'}"), "ok")
            self.quickly(console.office.renew, name, ward.device, most=HUGE)
        self.assertEqual(len(console.office), 200)
        for command in ("people a", "lot a", "log a", "face a", "keeps a bell,shut", "can b bell", "sure b -", "gap b shut",
                        "ears a open,shut", "ears b bell", "bars a open,shut", "bars b bell", "learn a ab empty"):  # fmt: skip
            self.quickly(self.quietly, console.say, command)
        for _ in range(200):
            self.quickly(console.office.undo)
        for _ in range(200):
            self.quickly(console.office.redo)


if __name__ == "__main__":
    unittest.main()

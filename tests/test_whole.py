"""Points [2] and [3]: what each part says beside what the other parts say, on many small houses."""

import itertools
import random
import unittest

from housewardens.alike import are_alike, are_alike_beside, least_device, log_beside
from housewardens.bars import barred_book, fewest_bars
from housewardens.books import Book
from housewardens.catchers import can_catch, catcher_of, guest_holds, judge_guest
from housewardens.catching import does_catch, doubt_of, judge_catching, least_ticks
from housewardens.console import Console
from housewardens.cuts import cut_heard
from housewardens.days import crowds_of_log, people_of_log, run_of_log
from housewardens.devices import Device
from housewardens.ears import least_choices, least_ears
from housewardens.enough import enough, fewest_for
from housewardens.errors import Harmful, NotAlike, TooMany, WardError
from housewardens.findings import finding_holds, told_by_texts
from housewardens.guests import Guest
from housewardens.keepers import can_keep, judge_keeping, keeper_of
from housewardens.learning import first_learned, judge_learned, learned_holds
from housewardens.logs import can_come, faces_shown, logs_that_come
from housewardens.lots import lot_behind
from housewardens.office import Office
from housewardens.onlookers import Onlooker
from housewardens.sights import knows_empty, knows_somebody, possible_pictures
from housewardens.surely import gap_for, gap_of, is_sure_lot, rounds_for, rounds_of, stayer, surer
from housewardens.visits import cases_behind
from housewardens.walks import fewest_people, people_paper
from housewardens.wards import Ward, along, has_harm, judge_ward, log_of, pictures_of
from tests.helpers import ALL_HARMS, FACES, HALL, HARMS, HUGE, WARD, error_of, plain_runs, some_device, some_wards
from tests.plain import CLOCKED, DOOR, LOUD_HALL, NOOK, QUIET, plain_stands, some_leaving_book
from tests.plain_guests import some_guarded

ALL_LETTERS = "abcdefghijklmnopqrstuvwxyz"


def houses(many, seed):
    """Small wards, those of the examples and those of books in which people leave."""
    rng = random.Random(seed)
    for book in (HALL, LOUD_HALL, CLOCKED, QUIET, NOOK, DOOR):
        yield Ward(book, FACES, some_device(rng, FACES))
    for _ in range(many // 2):
        yield Ward(some_leaving_book(rng), FACES, some_device(rng, FACES))
    yield from some_wards(many, seed)


def quietly(call, *values, **more):
    """What a call returns, None if it raises TooMany."""
    try:
        return call(*values, **more)
    except TooMany:
        return None


class Guarantee(unittest.TestCase):
    def test_a_ward_keeps_or_a_run_brings_a_harm(self):
        for ward in houses(40, 431):
            runs = list(itertools.islice(plain_runs(ward, 3), 300))
            for harms in ALL_HARMS:
                paper = judge_ward(ward, harms, most=HUGE)
                self.assertIs(finding_holds(told_by_texts(("ward", ward, harms, paper))), True)
                brings = [run for run, picture in runs if any(has_harm(ward, picture, harm) for harm in harms)]
                if paper[0] == "kept":
                    self.assertEqual(brings, [])
                    self.assertIs(quietly(can_keep, ward.book, ward.faces, harms, most=200) in (True, None), True)
                else:
                    many = fewest_people(ward, paper[1])
                    self.assertLessEqual(fewest_for(ward, along(ward, paper[1])[-1]), many)

    def test_some_device_keeps_or_a_refusal_holds_against_drawn_devices(self):
        rng = random.Random(432)
        found = {"kept": 0, "refused": 0}
        for ward in houses(40, 432):
            book, faces = ward.book, ward.faces
            for harms in ALL_HARMS:
                paper = quietly(judge_keeping, book, faces, harms)
                if paper is None:
                    continue
                found[paper[0]] += 1
                self.assertIs(finding_holds(told_by_texts(("keeping", book, faces, harms, None, None, paper))), True)
                if paper[0] == "kept":
                    self.assertEqual(judge_ward(Ward(book, faces, paper[1]), harms, most=HUGE)[0], "kept")
                    continue
                for device in [ward.device, *[some_device(rng, faces, 4) for _ in range(6)]]:
                    self.assertEqual(judge_ward(Ward(book, faces, device), harms, most=HUGE)[0], "harm")
        self.assertGreater(min(found.values()), 40)

    def test_people_of_runs_logs_and_pictures(self):
        for ward in houses(20, 433):
            for run, picture in itertools.islice(plain_runs(ward, 2), 30):
                fewest = fewest_people(ward, run)
                _, walks, apart = people_paper(ward, run)
                self.assertEqual((len(walks), len(apart)), (fewest, fewest))
                log = log_of(ward, run)
                if fewest <= 5:
                    many = people_of_log(ward, log)
                    self.assertLessEqual(many, fewest)
                    self.assertLessEqual(fewest_for(ward, picture), fewest)
                    self.assertEqual(crowds_of_log(ward, log, many - 1), ())
                again = run_of_log(ward, log, picture[0])
                self.assertLessEqual(again, run)
                self.assertEqual(along(ward, again)[-1], picture)

    def test_enough_people_are_in_all_pictures(self):
        for ward in houses(6, 434):
            pictures = pictures_of(ward, most=HUGE)
            if len(pictures) <= 12:
                self.assertEqual(enough(ward), max(fewest_for(ward, picture) for picture in pictures))

    def test_lots_and_who_hears_and_sees_all(self):
        for ward in houses(30, 435):
            onlooker = Onlooker(ALL_LETTERS, tuple(range(len(ward.faces))))
            for run, picture in itertools.islice(plain_runs(ward, 2), 25):
                lot = lot_behind(ward, log_of(ward, run))
                self.assertEqual(possible_pictures(ward, onlooker, run), tuple((where, picture[1]) for where in lot))
                self.assertIs(knows_empty(ward, onlooker, run), is_sure_lot(ward.book, lot))
                self.assertTrue(all(run_of_log(ward, log_of(ward, run), where) is not None for where in lot))

    def test_alike_devices(self):
        rng = random.Random(436)
        for ward in houses(30, 436):
            least = least_device(ward.device)
            self.assertIs(are_alike(ward.device, least), True)
            self.assertIs(are_alike_beside(ward, least, most=HUGE), True)
            other = some_device(rng, ward.faces)
            log = log_beside(ward, other, most=HUGE)
            if log is not None:
                self.assertIs(can_come(ward, log), True)
                self.assertNotEqual(faces_shown(ward.device, log)[-1], faces_shown(other, log)[-1])
                self.assertEqual(faces_shown(ward.device, log)[:-1], faces_shown(other, log)[:-1])
                self.assertIs(are_alike(ward.device, other), False)
            elif not are_alike(ward.device, other):
                for length in (1, 2):
                    for some in itertools.islice(logs_that_come(ward, length), 30):
                        self.assertEqual(faces_shown(ward.device, some), faces_shown(other, some))

    def test_least_ears_choices_and_bars(self):
        for ward in houses(12, 437):
            book, faces = ward.book, ward.faces
            for harms in (("open", "shut"), ("bell", "shut"), HARMS):
                for letters in quietly(least_ears, book, faces, harms) or ():
                    device = keeper_of(book, faces, harms, ears=letters)
                    self.assertTrue(all(cut_heard(heard, letters) == heard for _, heard, _ in device.steps))
                    for letter in letters:
                        self.assertIs(can_keep(book, faces, harms, ears=letters.replace(letter, "")), False)
                for choice in quietly(least_choices, book, faces, harms) or ():
                    self.assertLessEqual(set(keeper_of(book, faces, harms, choice=choice).shown), set(choice))
                    for face in choice if len(choice) > 1 else ():
                        rest = tuple(number for number in choice if number != face)
                        self.assertIs(can_keep(book, faces, harms, choice=rest), False)
                for bar in quietly(fewest_bars, book, faces, harms, greatest=1) or ():
                    self.assertIs(can_keep(barred_book(book, bar), faces, harms), True)
                    self.assertEqual(bar == (), can_keep(book, faces, harms))

    def test_rounds_and_gaps(self):
        for ward in houses(40, 438):
            book, faces = ward.book, ward.faces
            for harms in ((), ("bell",), ("bell", "shut")):
                number = quietly(rounds_for, book, faces, harms=harms)
                if number is not None:
                    self.assertEqual(rounds_of(Ward(book, faces, surer(book, faces, harms=harms)), most=HUGE), number)
                gap = quietly(gap_for, book, faces, harms=harms)
                if gap is not None:
                    self.assertIsNotNone(number)
                    held = Ward(book, faces, stayer(book, faces, harms=harms))
                    self.assertEqual(gap_of(held, most=HUGE), gap)
                    kept = judge_ward(held, harms, most=HUGE)
                    self.assertEqual(kept[0], "kept")
                if harms == () and rounds_of(ward, most=HUGE) is not None and number is not None:
                    self.assertLessEqual(number, rounds_of(ward, most=HUGE))

    def test_sure_lots_are_what_an_onlooker_learns(self):
        for ward in houses(30, 439):
            onlooker = Onlooker(ALL_LETTERS, tuple(range(len(ward.faces))))
            run = quietly(first_learned, ward, onlooker, "empty", most=200)
            sure = any(is_sure_lot(ward.book, lot) for lot, _ in plain_stands(ward))
            if run is not None:
                self.assertIs(sure, True)
                self.assertIs(knows_empty(ward, onlooker, run), True)
            elif quietly(first_learned, ward, onlooker, "somebody", most=200) is not None:
                self.assertIs(sure, False)

    def test_guests(self):
        rng = random.Random(440)
        found = {True: 0, False: 0}
        for _ in range(60):
            ward, guest = some_guarded(rng)
            for ticks in (1, 2):
                right = quietly(can_catch, ward.book, ward.faces, guest, ticks)
                if right is None:
                    continue
                found[right] += 1
                paper = judge_guest(ward.book, ward.faces, guest, ticks)
                self.assertIs(guest_holds(ward.book, ward.faces, guest, ticks, paper), True)
                if does_catch(ward, guest, ticks):
                    self.assertIs(right, True)
                    self.assertIsNone(doubt_of(ward, guest, ticks, most=HUGE))
                if right:
                    held = Ward(ward.book, ward.faces, catcher_of(ward.book, ward.faces, guest, ticks))
                    self.assertLessEqual(least_ticks(held, guest, ticks, most=HUGE), ticks)
                    self.assertEqual(judge_catching(held, guest, ticks, most=HUGE)[0], "catches")
                else:
                    self.assertIn(judge_catching(ward, guest, ticks)[0], ("early", "late"))
        self.assertGreater(min(found.values()), 20)

    def test_without_a_guest_the_cases_are_the_lot(self):
        nobody = Guest((-1,), ())
        for ward in houses(20, 441):
            for length in range(3):
                for log in itertools.islice(logs_that_come(ward, length), 20):
                    cases = tuple((where, 0, 0) for where in lot_behind(ward, log))
                    self.assertEqual(cases_behind(ward, nobody, log), cases)
            self.assertEqual(cases_behind(ward, nobody, ("z",)), ())

    def test_learning(self):
        for ward in houses(30, 442):
            onlooker = Onlooker("ac", (0,) * len(ward.faces))
            for word, knows in (("empty", knows_empty), ("somebody", knows_somebody)):
                paper = quietly(judge_learned, ward, onlooker, word, most=200)
                if paper is None:
                    continue
                self.assertIs(learned_holds(ward, onlooker, word, paper), True)
                for run, _ in itertools.islice(plain_runs(ward, 2), 20):
                    if paper[0] == "never":
                        self.assertIs(knows(ward, onlooker, run), False)
                    elif (len(run), run) < (len(paper[1]), paper[1]):
                        self.assertIs(knows(ward, onlooker, run), False)

    def test_texts(self):
        rng = random.Random(443)
        for ward in houses(40, 443):
            for kind, thing in ((Ward, ward), (Book, ward.book), (Device, ward.device), (Guest, some_guarded(rng)[1])):
                self.assertEqual(kind.read(str(thing)), thing)
                self.assertEqual(str(kind.read(str(thing))), str(thing))

    def test_gates_of_an_office(self):
        rng = random.Random(444)
        found = {}
        for ward in houses(60, 444):
            office = Office()
            office.open_ward("a", ward)
            for _ in range(4):
                device = rng.choice((some_device(rng, ward.faces), least_device(office.ward_of("a").device)))
                present = office.ward_of("a")
                kept = [harm for harm in HARMS if judge_ward(present, (harm,), most=HUGE)[0] == "kept"]
                error = error_of(office.renew, "a", device, most=HUGE)
                found[type(error)] = True
                if error is None:
                    # Then all harms that were kept are kept, and the lot is the same.
                    self.assertEqual(judge_ward(office.ward_of("a"), tuple(kept), most=HUGE)[0], "kept")
                    self.assertIs(are_alike_beside(present, device, most=HUGE), True)
                if error_of(office.swap, "a", device, most=HUGE) is None:
                    self.assertEqual(judge_ward(office.ward_of("a"), tuple(kept), most=HUGE)[0], "kept")
                strings = [log[0] for log in logs_that_come(Ward(ward.book, ward.faces, office.ward_of("a").device), 1)]
                if office.day_of("a") == ():
                    office.hear("a", rng.choice(strings))
                self.assertEqual(office.lot_now("a"), lot_behind(office.ward_of("a"), office.day_of("a")))
        self.assertLessEqual({NotAlike, type(None)}, set(found))
        self.assertLessEqual(set(found), {NotAlike, Harmful, type(None)})

    def test_a_console_and_its_office_tell_the_same(self):
        console = Console()
        word = str(WARD).replace("\n", ";")
        for command in (f"open hall {word}", "hear hall -", "hear hall a", "undo", "redo"):
            self.assertEqual(console.say(command), "ok")
        office = console.office
        self.assertEqual(office.day_of("hall"), ("", "a"))
        self.assertEqual(console.say("people hall"), str(people_of_log(WARD, ("", "a"))))
        self.assertEqual(console.say("face hall"), str(office.face_now("hall")))
        self.assertEqual(len(office), 3)

    def test_each_error_is_a_direct_subclass(self):
        self.assertEqual(WardError.__bases__, (Exception,))
        for kind in WardError.__subclasses__():
            self.assertEqual(kind.__bases__, (WardError,))


if __name__ == "__main__":
    unittest.main()

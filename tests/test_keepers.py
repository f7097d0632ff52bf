"""Points [18] to [21], keepers.py and keeppapers.py."""

import itertools
import random
import unittest

from housewardens.books import Book
from housewardens.devices import Device
from housewardens.errors import Refused, TooMany
from housewardens.keepers import can_keep, judge_keeping, keeper_of
from housewardens.keeppapers import keeping_holds, rows_of_ward
from housewardens.wards import Ward, judge_ward
from tests.helpers import (
    ALL_HARMS,
    FACES,
    HALL,
    HUGE,
    ONE_FACE,
    STREET,
    STREET_WARD,
    WARD,
    calls_leave_alone,
    error_of,
    some_wards,
    variants,
    wild_values,
)
from tests.plain import (
    CLOCKED,
    LOUD_HALL,
    NOOK,
    OPEN_SHUT,
    QUIET,
    THREE_FACES,
    do_ascend,
    is_plain_keeping,
    plain_answers,
    plain_can_keep,
    plain_cut,
    plain_led,
    plain_lots_met,
    plain_stands,
    some_leaving_book,
    told,
)
from tests.test_alike import all_devices

EARS = (None, "", "a", "bc", "z")
LEAVING = Device((0, 0, 1), ((0, "", 1), (1, "", 2), (2, "", 2)), (0, 0, 0))
LOUD = Book((-1, 0), ((0, 0, "a", (0, 1), (), ()), (0, 1, "b", (0, 1), (), ()), (1, 0, "c", (0, 1), (), ())), (0,))


def with_ears(ward, ears):
    """The ward whose people are heard by these ears alone, as its device hears them."""
    moves = tuple((*move[:2], plain_cut(move[2], ears), *move[3:]) for move in ward.book.moves)
    return Ward(Book(ward.book.rooms, moves, ward.book.first), ward.faces, ward.device)


def cases(many, seed, most=40):
    """Books, faces, harms, ears and choices, with few lots."""
    rng = random.Random(seed)
    for book, faces, harms in itertools.product((HALL, LOUD_HALL, CLOCKED, QUIET, NOOK), (FACES,), ALL_HARMS):
        yield book, faces, harms, None, None
    for _ in range(2 * many):
        book, ears = some_leaving_book(rng), rng.choice((None, None, *EARS))
        if plain_lots_met(book, (0, 1), ears, most):
            yield book, FACES, OPEN_SHUT, ears, None
    for ward in some_wards(many, seed):
        for _ in range(3):
            faces = rng.choice((ward.faces, FACES, THREE_FACES, ((False, False), (True, True))))
            numbers = list(range(len(faces)))
            choice = rng.choice((None, None, tuple(sorted(rng.sample(numbers, rng.randint(1, len(numbers)))))))
            harms, ears = rng.choice(ALL_HARMS + [OPEN_SHUT] * 6), rng.choice(EARS)
            if plain_lots_met(ward.book, numbers if choice is None else choice, ears, most):
                yield ward.book, faces, harms, ears, choice


class Keepers(unittest.TestCase):
    def test_examples(self):
        self.assertIs(can_keep(HALL, FACES, ("shut",)), True)
        rows = rows_of_ward(Ward(HALL, FACES, Device((0,), (), (0,))))
        self.assertIs(keeping_holds(HALL, FACES, ("shut",), ("kept", Device((0,), (), (0,)), rows)), True)
        self.assertIs(can_keep(HALL, FACES, OPEN_SHUT), False)
        self.assertIs(can_keep(harms=OPEN_SHUT, faces=FACES, book=LOUD_HALL), True)
        rows = rows_of_ward(Ward(LOUD_HALL, FACES, LEAVING))
        self.assertIs(keeping_holds(LOUD_HALL, FACES, OPEN_SHUT, ("kept", LEAVING, rows)), True)
        self.assertEqual(judge_ward(Ward(LOUD_HALL, FACES, LEAVING), OPEN_SHUT)[0], "kept")

    def test_open_looks_at_the_device_alone(self):
        strings = ("a", "ab", "abc", "ac", "b", "bc", "c")
        device = Device((0, 1), tuple((0, heard, 0) for heard in strings), (1, 1))
        rows = rows_of_ward(Ward(LOUD, FACES, device))
        self.assertEqual({state for _, state in rows}, {0})
        self.assertIs(keeping_holds(LOUD, FACES, OPEN_SHUT, ("kept", device, rows)), True)
        self.assertIs(can_keep(LOUD, FACES, OPEN_SHUT), True)
        self.assertIs(can_keep(LOUD, FACES, OPEN_SHUT, choice=(0,)), False)
        self.assertIs(can_keep(LOUD, FACES, OPEN_SHUT, choice=(1,)), False)
        self.assertIs(can_keep(LOUD, FACES, ("open",), choice=(1,)), True)
        paper = judge_keeping(LOUD, FACES, OPEN_SHUT)
        self.assertEqual(judge_ward(Ward(LOUD, FACES, paper[1]), OPEN_SHUT)[0], "kept")

    def test_papers_hold(self):
        for book, faces, harms, ears, choice in cases(60, 131):
            more = {"ears": ears, "choice": choice}
            paper = judge_keeping(book, faces, harms, **more)
            self.assertIs(can_keep(book, faces, harms, **more), paper[0] == "kept")
            self.assertIs(keeping_holds(book, faces, harms, paper, **more), True)
            self.assertIs(is_plain_keeping(book, faces, harms, paper, ears, choice), True)
            self.assertEqual(told(paper), told(judge_keeping(harms=harms, faces=faces, book=book, **more)))
            self.assertTrue(do_ascend(paper[-1]))

    def test_against_a_play_with_promises(self):
        found = {True: 0, False: 0}
        for book, faces, harms, ears, choice in cases(60, 132, 12):
            right = plain_can_keep(book, faces, harms, ears, choice)
            self.assertIs(can_keep(book, faces, harms, ears=ears, choice=choice), right)
            found[right] += 1
        self.assertGreater(min(found.values()), 20)

    def test_a_ward_with_the_device_keeps(self):
        for book, faces, harms, ears, choice in cases(60, 133):
            more = {"ears": ears, "choice": choice}
            if not can_keep(book, faces, harms, **more):
                error = error_of(keeper_of, book, faces, harms, **more)
                self.assertIs(type(error), Refused)
                self.assertEqual(error.paper[0], "refused")
                self.assertIs(keeping_holds(book, faces, harms, error.paper, **more), True)
                continue
            device = keeper_of(book, faces, harms, **more)
            self.assertLessEqual(set(device.shown), set(range(len(faces)) if choice is None else choice))
            ward = with_ears(Ward(book, faces, device), ears)
            self.assertEqual(judge_ward(ward, harms, most=HUGE)[0], "kept")
            self.assertTrue(all(plain_cut(heard, ears) == heard for _, heard, _ in device.steps))

    def test_no_small_device_keeps_what_is_refused(self):
        for book, faces, harms in (
            (HALL, FACES, OPEN_SHUT),
            (QUIET, FACES, OPEN_SHUT),
            (STREET, FACES, OPEN_SHUT),
            (CLOCKED, FACES[:1], OPEN_SHUT),
            (HALL, ((False, True),), ("bell",)),
        ):
            self.assertIs(can_keep(book, faces, harms), False)
            strings = sorted({move[2] for move in book.moves} | {""})[:2]
            for states in (1, 2):
                for device in all_devices(states, strings, len(faces)):
                    self.assertEqual(judge_ward(Ward(book, faces, device), harms)[0], "harm")

    def test_more_is_no_worse(self):
        for book, faces, harms, _, _ in cases(30, 134):
            found = {ears: self.quietly(book, faces, harms, ears) for ears in ("", "a", "ab", "abc")}
            kept = [kept for kept in found.values() if kept is not None]
            self.assertEqual(kept, sorted(kept))

    def quietly(self, book, faces, harms, ears):
        if not plain_lots_met(book, range(len(faces)), ears, 60):
            return None
        return can_keep(book, faces, harms, ears=ears)

    def test_no_harms(self):
        for book in (HALL, CLOCKED, STREET):
            self.assertEqual(judge_keeping(book, FACES, ())[0], "kept")
            self.assertEqual(judge_keeping(book, ((True, True),), ())[0], "kept")

    def test_each_harm_alone(self):
        self.assertIs(can_keep(HALL, ((True, False),), ("shut",)), False)
        self.assertIs(can_keep(HALL, ((True, False),), ("open",)), True)
        self.assertIs(can_keep(HALL, ((False, False),), ("open",)), False)
        self.assertIs(can_keep(HALL, ((False, True), (True, True)), ("bell",)), False)
        self.assertIs(can_keep(HALL, ((False, True), (True, False)), ("bell",)), True)
        self.assertIs(can_keep(HALL, ((False, True), (True, False)), ("bell", "shut")), False)
        self.assertIs(can_keep(HALL, FACES, ("bell", "open", "shut")), False)
        self.assertIs(can_keep(LOUD_HALL, FACES, ("bell", "open", "shut")), True)

    def test_a_first_lot_that_is_waiting(self):
        book = Book((-1, 0), (), (0,))
        self.assertIs(can_keep(book, FACES, OPEN_SHUT), True)
        self.assertIs(can_keep(book, FACES, OPEN_SHUT, choice=(0,)), False)
        self.assertIs(can_keep(book, FACES, OPEN_SHUT, choice=(1,)), True)

    def test_moves_that_name_no_face_that_there_is(self):
        book = Book((-1, 0), ((0, 1, "a", (7, 99), (), ()), (0, 0, "b", (), (), ())), (0,))
        self.assertEqual(judge_keeping(book, FACES, OPEN_SHUT)[0], "kept")
        self.assertEqual(rows_of_ward(Ward(book, FACES, Device((0,), (), (0,)))), ((((0,),), 0),))


class TooManyLots(unittest.TestCase):
    def test_just_as_many_one_less_and_none(self):
        for book, faces, harms, ears, choice in cases(40, 135):
            many = len(plain_lots_met(book, range(len(faces)) if choice is None else choice, ears))
            more = {"ears": ears, "choice": choice}
            can_keep(book, faces, harms, most=many, **more)
            for call in (can_keep, judge_keeping, keeper_of):
                for most in {many - 1, 0}:
                    error = error_of(call, book, faces, harms, most=most, **more)
                    self.assertIs(type(error), TooMany)
                    self.assertEqual(error.most, most)

    def test_lots_behind_unsafe_faces_count(self):
        book = Book((0, -1), ((0, 1, "a", (1,), (), ()),), (0,))
        self.assertEqual(error_of(can_keep, book, FACES, ("shut",), most=1).most, 1)
        self.assertIs(can_keep(book, FACES, ("shut",), most=1, choice=(0,)), True)
        self.assertIs(can_keep(book, FACES, ("shut",), most=2), True)

    def test_most_and_the_others_are_passed_by_name(self):
        for call in (can_keep, judge_keeping, keeper_of):
            self.assertIs(type(error_of(call, HALL, FACES, (), None)), TypeError)
        self.assertIs(type(error_of(keeping_holds, HALL, FACES, (), (), None)), TypeError)
        self.assertIs(type(error_of(rows_of_ward, WARD, None)), TypeError)


class Rows(unittest.TestCase):
    def test_rows_of_wards(self):
        rng = random.Random(136)
        for ward in [WARD, STREET_WARD, *some_wards(60, 136)]:
            ears = rng.choice(EARS)
            rows = plain_stands(ward, ears)
            self.assertEqual(rows_of_ward(ward, ears=ears, most=len(rows)), rows)
            for most in {len(rows) - 1, 0}:
                error = error_of(rows_of_ward, ward, ears=ears, most=most)
                self.assertIs(type(error), TooMany)
                self.assertEqual(error.most, most)
        self.assertEqual(rows_of_ward(ward=WARD), rows_of_ward(WARD, most=60, ears=None))

    def test_a_ward_keeps_just_if_its_rows_are_a_paper(self):
        for ward in [WARD, STREET_WARD, *some_wards(80, 137)]:
            rows = rows_of_ward(ward, most=HUGE)
            for harms in ALL_HARMS:
                kept = judge_ward(ward, harms, most=HUGE)[0] == "kept"
                paper = ("kept", ward.device, rows)
                self.assertIs(keeping_holds(ward.book, ward.faces, harms, paper), kept)

    def test_by_ears(self):
        for ward in some_wards(60, 138):
            for ears in ("", "a", "bc"):
                rows = rows_of_ward(ward, ears=ears, most=HUGE)
                paper = ("kept", ward.device, rows)
                for harms in ALL_HARMS:
                    kept = judge_ward(with_ears(ward, ears), harms, most=HUGE)[0] == "kept"
                    self.assertIs(keeping_holds(ward.book, ward.faces, harms, paper, ears=ears), kept)


class Papers(unittest.TestCase):
    def test_kept_papers_of_other_hands(self):
        one = Device((0,), (), (0,))
        rows = rows_of_ward(Ward(HALL, FACES, one))
        further = tuple(sorted(rows + ((((0,), (2,)), 0),)))
        for lot in (((0,),), ((0,), (2,)), ((1,), (2,))):
            closed = {(lot, 0)}
            while True:
                found = closed | {(target, 0) for some, _ in closed for _, target in plain_answers(HALL, some, 0)}
                if found == closed:
                    break
                closed = found
            table = tuple(sorted(closed | set(rows)))
            self.assertIs(keeping_holds(HALL, FACES, ("shut",), ("kept", one, table)), True)
        self.assertIs(
            keeping_holds(HALL, FACES, ("shut",), ("kept", one, further)),
            is_plain_keeping(HALL, FACES, ("shut",), ("kept", one, further)),
        )
        large = Device((0, 1, 1), ((0, "a", 0),), (0, 2, 1))
        self.assertIs(keeping_holds(HALL, FACES, ("shut",), ("kept", large, rows)), True)
        self.assertIs(keeping_holds(HALL, FACES, ("shut",), ("kept", large, rows), choice=(0,)), False)
        self.assertIs(keeping_holds(HALL, FACES, ("shut",), ("kept", one, rows), choice=(0,)), True)
        self.assertIs(keeping_holds(HALL, FACES, ("shut",), ("kept", one, rows), choice=(1,)), False)
        strange = Device((0, 2), (), (0, 0))
        self.assertIs(keeping_holds(HALL, FACES, ("shut",), ("kept", strange, rows)), False)

    def test_refusals_of_other_hands(self):
        paper = judge_keeping(HALL, FACES, OPEN_SHUT)
        rows = paper[1]
        self.assertEqual(paper[0], "refused")
        wide = tuple((lot, number * 10**30 + 5, kind) for lot, number, kind in rows)
        self.assertIs(keeping_holds(HALL, FACES, OPEN_SHUT, ("refused", wide)), True)
        several = tuple(sorted(set(rows) | {(lot, number + 7, kind) for lot, number, kind in rows}))
        self.assertIs(keeping_holds(HALL, FACES, OPEN_SHUT, ("refused", several)), True)
        # In a lot of nobody at home to which no log leads the armed face is safe: so it is not lost.
        unmet = ((0,),)
        for kind in ("lost", "silent"):
            thing = ("refused", tuple(sorted(rows + ((unmet, 9, kind),))))
            self.assertIs(keeping_holds(HALL, FACES, OPEN_SHUT, thing), False)
        unmet = ((0,), (0, 1))
        for kind in ("lost", "silent"):
            thing = ("refused", tuple(sorted(rows + ((unmet, 9, kind),))))
            right = is_plain_keeping(HALL, FACES, OPEN_SHUT, thing)
            self.assertIs(keeping_holds(HALL, FACES, OPEN_SHUT, thing), right)

    def test_a_refusal_where_silence_cannot_come(self):
        book = Book((-1,), ((0, 0, "a", (0, 1), (), ()),), (0,))
        lot = ((0,),)
        rows = ((lot, 0, "lost"), (lot, 0, "silent"))
        self.assertIs(keeping_holds(book, ONE_FACE, ("open",), ("refused", rows)), True)
        self.assertIs(keeping_holds(book, FACES, ("open",), ("refused", rows), choice=(0,)), True)
        self.assertIs(keeping_holds(book, FACES, ("open",), ("refused", rows)), False)
        self.assertIs(keeping_holds(book, ONE_FACE, ("open",), ("refused", rows[:1])), False)
        self.assertIs(keeping_holds(book, ONE_FACE, ("open",), ("refused", rows[1:])), False)
        self.assertIs(keeping_holds(book, ONE_FACE, ("open",), ("refused", ((lot, 1, "lost"), rows[1]))), False)

    def test_a_lot_in_which_no_face_is_safe(self):
        rows = (((((0,),)), 0, "lost"),)
        self.assertIs(keeping_holds(STREET, ((True, False),), ("shut",), ("refused", rows)), True)
        self.assertIs(keeping_holds(STREET, ((False, True),), ("bell",), ("refused", rows)), True)
        self.assertIs(keeping_holds(STREET, ((False, True),), ("shut",), ("refused", rows)), False)
        self.assertIs(keeping_holds(STREET, FACES, ("shut",), ("refused", rows), choice=(1,)), True)
        self.assertIs(keeping_holds(STREET, FACES, ("shut",), ("refused", rows)), False)

    def test_rows_just_outside_of_what_is_let(self):
        device = Device((0, 0), (), (0, 0))
        rows = rows_of_ward(Ward(HALL, FACES, device))
        for row in ((rows[0][0], -1), (rows[0][0], 2), ((), 0), ((), 1), (((0,),), True), (((0, 3),), 0), (((),), 0)):
            thing = ("kept", device, tuple(sorted({*rows, row})))
            self.assertIs(keeping_holds(HALL, FACES, ("shut",), thing), False, row)
        self.assertIs(keeping_holds(HALL, FACES, ("shut",), ("kept", device, rows)), True)
        lot = ((0,),)
        away = Book((-1,), ((0, 0, "a", (0, 1), (), ()),), (0,))
        rows = ((lot, 0, "lost"), (lot, 0, "silent"))
        self.assertIs(keeping_holds(away, ONE_FACE, ("open",), ("refused", rows)), True)
        for row in (((), 0, "silent"), (lot, -1, "silent"), (lot, 0, "other"), (lot, 0, ""), (lot, 5, "silent lost")):
            thing = ("refused", tuple(sorted({*rows, row})))
            self.assertIs(keeping_holds(away, ONE_FACE, ("open",), thing), False, row)
        rows = ((lot, -1, "lost"), (lot, -1, "silent"))
        self.assertIs(keeping_holds(away, ONE_FACE, ("open",), ("refused", rows)), False)

    def test_a_silent_row_of_a_lot_that_is_not_waiting(self):
        within = Book((0,), (), (0,))
        rows = ((((0,),), 3, "lost"), (((0,),), 3, "silent"))
        self.assertIs(keeping_holds(within, ONE_FACE, ("open",), ("refused", rows)), False)
        self.assertIs(keeping_holds(Book((-1,), (), (0,)), ONE_FACE, ("open",), ("refused", rows)), True)
        self.assertIs(keeping_holds(Book((-1,), (), (0,)), ONE_FACE, (), ("refused", rows)), False)

    def test_one_row_more_or_less(self):
        for book, faces, harms, ears, choice in cases(25, 139, 15):
            paper = judge_keeping(book, faces, harms, ears=ears, choice=choice)
            for at in range(len(paper[-1])):
                thing = (*paper[:-1], paper[-1][:at] + paper[-1][at + 1 :])
                found = keeping_holds(book, faces, harms, thing, ears=ears, choice=choice)
                self.assertIs(found, is_plain_keeping(book, faces, harms, thing, ears, choice))
            other = judge_keeping(book, faces, harms, choice=choice, most=HUGE) if ears else paper
            found = keeping_holds(book, faces, harms, other, ears=ears, choice=choice)
            self.assertIs(found, is_plain_keeping(book, faces, harms, other, ears, choice))

    def test_other_numbers_and_lots(self):
        rng = random.Random(140)
        for book, faces, harms, ears, choice in cases(25, 140, 15):
            paper = judge_keeping(book, faces, harms, ears=ears, choice=choice)
            rows = paper[-1]
            for _ in range(6):
                row, at = rng.choice(rows), rng.randrange(len(rows))
                changed = (row[0], max(0, row[1] + rng.choice((-1, 0, 1))), *row[2:])
                if paper[0] == "refused" and rng.random() < 0.3:
                    changed = (*changed[:2], rng.choice(("lost", "silent")))
                thing = (*paper[:-1], tuple(sorted({*rows[:at], *rows[at + 1 :], changed})))
                found = keeping_holds(book, faces, harms, thing, ears=ears, choice=choice)
                self.assertIs(found, is_plain_keeping(book, faces, harms, thing, ears, choice), thing)

    def test_any_value(self):
        parts = [None, True, 0, 1, 2, -1, "lost", "", (), [], (0,), ((0,),), Device((0,), (), (0,)), Device((1,), (), (0,))]
        for book, faces, harms, ears, choice in (
            (STREET, FACES, ("shut",), None, None),
            (CLOCKED, FACES, OPEN_SHUT, "ac", (0, 1)),
            (CLOCKED, FACES, OPEN_SHUT, "", None),
            (STREET, FACES, OPEN_SHUT, None, (0,)),
        ):
            paper = judge_keeping(book, faces, harms, ears=ears, choice=choice)
            for thing in [*wild_values(), *variants(paper, parts)]:
                found = calls_leave_alone(
                    self, lambda value: keeping_holds(book, faces, harms, value, ears=ears, choice=choice), thing
                )
                self.assertIs(found, is_plain_keeping(book, faces, harms, thing, ears, choice), thing)

    def test_by_name(self):
        paper = judge_keeping(CLOCKED, FACES, OPEN_SHUT, ears="ac", choice=(0, 1), most=60)
        self.assertIs(
            keeping_holds(choice=(0, 1), ears="ac", thing=paper, harms=OPEN_SHUT, faces=FACES, book=CLOCKED), True
        )
        self.assertIs(keeping_holds(CLOCKED, FACES, OPEN_SHUT, paper, ears="bc"), False)

    def test_the_device_goes_on_by_cuts(self):
        device = keeper_of(CLOCKED, FACES, OPEN_SHUT, ears="ac")
        self.assertEqual(plain_led(device, 0, "z"), device.others[0])
        self.assertIs(can_keep(CLOCKED, FACES, OPEN_SHUT, ears="ab"), False)
        self.assertIs(can_keep(CLOCKED, FACES, OPEN_SHUT, ears="acz"), True)
        self.assertIs(can_keep(CLOCKED, FACES, OPEN_SHUT, ears=None), True)
        self.assertIs(can_keep(CLOCKED, FACES, OPEN_SHUT, ears=""), False)


if __name__ == "__main__":
    unittest.main()

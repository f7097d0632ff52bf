"""Points [25] to [27], and surepapers.py."""

import itertools
import random
import unittest

from housewardens.books import Book
from housewardens.errors import TooMany
from housewardens.surely import gap_for, rounds_for
from housewardens.surepapers import gap_holds, judge_gap, judge_rounds, judge_surely, rounds_hold, surely_holds
from tests.helpers import FACES, HUGE, calls_leave_alone, error_of, exact, plain_wheres, subsets, variants, wild_values
from tests.plain import (
    ALL_SAFE,
    CLOCKED,
    DOOR,
    QUIET,
    do_ascend,
    has_within,
    is_number,
    is_plain_lot,
    plain_answers,
    plain_rounds,
    plain_safe,
)
from tests.test_surely import RINGS, SLOW, SOME_HARMS, TURNING, cases, lots_of


def are_rows(book, rows, many):
    """Whether any value is an ascending tuple of rows of so many parts, ahead a lot that is not empty."""
    if type(rows) is not tuple or any(type(row) is not tuple or len(row) != many for row in rows):
        return False
    return all(is_plain_lot(book, row[0]) and row[0] for row in rows)


def targets(book, lot, face):
    return [target for _, target in plain_answers(book, lot, face)]


def is_plain_sure(book, faces, harms, rows, most):
    if not are_rows(book, rows, 3) or any(not has_within(book, (row[0])) for row in rows):
        return False
    for lot, face, number in rows:
        if not is_number(face, 0) or face not in plain_safe(book, faces, lot, harms) or not is_number(number, 1):
            return False
    number = {lot: rounds for lot, _, rounds in rows}
    if not do_ascend(rows) or len(number) < len(rows):
        return False
    first = (book.first,)
    if has_within(book, first) and (first not in number or number[first] > most):
        return False
    return all(
        not has_within(book, target) or (target in number and number[target] < rounds)
        for lot, face, rounds in rows
        for target in targets(book, lot, face)
    )


def is_plain_late(book, faces, harms, rows, rounds):
    if not are_rows(book, rows, 2) or any(not has_within(book, lot) or not is_number(at, 0) for lot, at in rows):
        return False
    number = dict(rows)
    if not do_ascend(rows) or len(number) < len(rows) or number.get((book.first,), -1) < rounds:
        return False
    return all(
        any(target in number and number[target] + 1 >= at for target in targets(book, lot, face))
        for lot, at in rows
        if at
        for face in plain_safe(book, faces, lot, harms)
    )


def is_plain_never(book, faces, harms, lots):
    if not is_plain_lot_row(book, lots) or (book.first,) not in lots:
        return False
    return all(
        any(target in lots for target in targets(book, lot, face))
        for lot in lots
        for face in plain_safe(book, faces, lot, harms)
    )


def is_plain_lot_row(book, lots):
    if type(lots) is not tuple or not all(is_plain_lot(book, lot) and lot for lot in lots):
        return False
    return do_ascend(lots) and all(has_within(book, lot) for lot in lots)


def parts_of(thing, word):
    return type(thing) is tuple and len(thing) == 2 and type(thing[0]) is str and thing[0] == word


def is_plain_surely(book, faces, harms, thing):
    if parts_of(thing, "sure"):
        return is_plain_sure(book, faces, harms, thing[1], HUGE * 10)
    return parts_of(thing, "never") and is_plain_never(book, faces, harms, thing[1])


def is_plain_rounds(book, faces, rounds, harms, thing):
    if parts_of(thing, "sure"):
        return is_plain_sure(book, faces, harms, thing[1], rounds)
    return parts_of(thing, "late") and is_plain_late(book, faces, harms, thing[1], rounds)


def is_plain_gap(book, faces, gap, harms, thing):
    """Whether any value is a paper of gaps, by the words of [26]."""
    if not parts_of(thing, "stays") and not parts_of(thing, "breaks"):
        return False
    rows = thing[1]
    if not are_rows(book, rows, 3):
        return False
    for lot, span, last in rows:
        if not is_number(span, 0, gap) or (span == 0) == has_within(book, lot) or not is_number(last, 0):
            return False
        if thing[0] == "stays" and last not in plain_safe(book, faces, lot, harms):
            return False
    known = {(lot, span): last for lot, span, last in rows}
    if not do_ascend(rows) or len(known) < len(rows):
        return False
    start = ((book.first,), int(has_within(book, (book.first,))))
    if start not in known and (thing[0] == "stays" or start[1] <= gap):
        return False
    for (lot, span), last in known.items():
        for face in (last,) if thing[0] == "stays" else plain_safe(book, faces, lot, harms):
            behind = [(row, span + 1 if has_within(book, row) else 0) for row in targets(book, lot, face)]
            if thing[0] == "stays" and not all(row in known for row in behind):
                return False
            if thing[0] == "breaks" and not any(row[1] > gap or known.get(row, last) < last for row in behind):
                return False
    return True


class Surely(unittest.TestCase):
    def test_examples(self):
        thing = ("sure", ((((0,),), 1, 1),))
        self.assertIs(surely_holds(DOOR, ALL_SAFE, (), thing), True)
        self.assertIs(rounds_hold(DOOR, ALL_SAFE, 1, (), thing), True)
        self.assertIs(rounds_hold(DOOR, ALL_SAFE, 0, (), thing), False)
        self.assertIs(surely_holds(thing=("never", (((0,),),)), harms=(), faces=ALL_SAFE[:1], book=DOOR), True)
        self.assertIs(surely_holds(DOOR, RINGS, ("bell",), ("never", (((0,),),))), True)
        self.assertIs(surely_holds(DOOR, RINGS, (), ("never", (((0,),),))), False)
        self.assertIs(surely_holds(DOOR, RINGS, ("bell",), thing), False)

    def test_just_one_kind_of_paper(self):
        for book, faces, harms in cases(60, 181):
            rounds = rounds_for(book, faces, harms=harms, most=HUGE)
            paper = judge_surely(book, faces, harms=harms, most=HUGE)
            self.assertEqual(paper[0], "never" if rounds is None else "sure")
            self.assertIs(surely_holds(book, faces, harms, paper), True)
            self.assertIs(is_plain_surely(book, faces, harms, paper), True)
            if rounds is not None:
                self.assertIs(rounds_hold(book, faces, rounds, harms, paper), True)
            self.assertEqual(exact(paper), exact(judge_surely(most=HUGE, harms=harms, faces=faces, book=book)))

    def test_a_first_lot_that_is_sure(self):
        self.assertEqual(rounds_for(CLOCKED, FACES), 0)
        for thing in (("sure", ()), judge_surely(CLOCKED, FACES), judge_rounds(CLOCKED, FACES, 0)):
            self.assertEqual(thing[0], "sure")
            self.assertIs(surely_holds(CLOCKED, FACES, (), thing), True)
            self.assertIs(rounds_hold(CLOCKED, FACES, 0, (), thing), True)
        self.assertIs(surely_holds(DOOR, ALL_SAFE, (), ("sure", ())), False)


class Rounds(unittest.TestCase):
    def test_each_number(self):
        for book, faces, harms in cases(60, 182):
            rounds = rounds_for(book, faces, harms=harms, most=HUGE)
            for number in (0, 1, 2, 3, 7, 200):
                paper = judge_rounds(book, faces, number, harms=harms, most=HUGE)
                self.assertEqual(paper[0], "sure" if rounds is not None and rounds <= number else "late")
                self.assertIs(rounds_hold(book, faces, number, harms, paper), True)
                self.assertIs(is_plain_rounds(book, faces, number, harms, paper), True)
                self.assertIs(surely_holds(book, faces, harms, paper), paper[0] == "sure")
                named = judge_rounds(most=HUGE, harms=harms, rounds=number, faces=faces, book=book)
                self.assertEqual(exact(paper), exact(named))

    def test_papers_for_other_numbers(self):
        for book, faces, harms in cases(30, 183):
            papers = [judge_rounds(book, faces, number, harms=harms, most=HUGE) for number in range(5)]
            for paper, number in itertools.product(papers, range(5)):
                right = is_plain_rounds(book, faces, number, harms, paper)
                self.assertIs(rounds_hold(book, faces, number, harms, paper), right)

    def test_rows_of_no_use(self):
        rows = (((0,),), 0, 3), (((1,),), 0, 2), (((2,),), 0, 1)
        self.assertIs(surely_holds(SLOW, ALL_SAFE, (), ("sure", rows)), True)
        wide = tuple((lot, face, number * 10**30) for lot, face, number in rows)
        self.assertIs(surely_holds(SLOW, ALL_SAFE, (), ("sure", wide)), True)
        self.assertIs(rounds_hold(SLOW, ALL_SAFE, 200, (), ("sure", wide)), False)
        unmet = tuple(sorted([*rows, (((0,), (0, 3)), 0, 8), (((0, 3),), 0, 4), (((1, 3),), 0, 3), (((2, 3),), 0, 2)]))
        self.assertIs(is_plain_surely(SLOW, ALL_SAFE, (), ("sure", unmet)), False)
        self.assertIs(surely_holds(SLOW, ALL_SAFE, (), ("sure", unmet)), False)
        unmet = tuple(sorted([*rows, (((0, 3),), 0, 4), (((1, 3),), 0, 3), (((2, 3),), 0, 2)]))
        self.assertIs(surely_holds(SLOW, ALL_SAFE, (), ("sure", unmet)), True)
        lazy = tuple(sorted([*rows, (((2, 3),), 1, 9)]))
        self.assertIs(surely_holds(SLOW, ALL_SAFE, (), ("sure", lazy)), False)
        for number in range(6):
            late = tuple((lot, max(0, number - at)) for at, (lot, _, _) in enumerate(rows))
            self.assertIs(rounds_hold(SLOW, ALL_SAFE, number, (), ("late", late)), number <= 2)


class Gaps(unittest.TestCase):
    def test_examples(self):
        self.assertIs(gap_holds(DOOR, ALL_SAFE, 0, (), ("breaks", ())), True)
        self.assertIs(gap_holds(DOOR, ALL_SAFE, 1, (), ("breaks", ())), False)
        self.assertEqual(judge_gap(DOOR, ALL_SAFE, 0), ("breaks", ()))
        rows = (((0,),), 1, 1), (((0,), (0, 1)), 1, 1), (((1,),), 0, 0)
        self.assertIs(gap_holds(DOOR, ALL_SAFE, 1, (), ("stays", rows)), True)
        rows = (((0,),), 1, 1), (((1,),), 0, 1)
        self.assertIs(gap_holds(thing=("stays", rows), harms=(), gap=1, faces=ALL_SAFE, book=DOOR), True)

    def test_each_number(self):
        for book, faces, harms in cases(60, 184):
            gap = gap_for(book, faces, harms=harms, most=HUGE)
            for number in (0, 1, 2, 3, 5, 60):
                paper = judge_gap(book, faces, number, harms=harms, most=HUGE)
                self.assertEqual(paper[0], "stays" if gap is not None and gap <= number else "breaks")
                self.assertIs(gap_holds(book, faces, number, harms, paper), True)
                if number < 10:
                    self.assertIs(is_plain_gap(book, faces, number, harms, paper), True)
                self.assertEqual(exact(paper), exact(judge_gap(most=HUGE, harms=harms, gap=number, faces=faces, book=book)))

    def test_papers_for_other_numbers(self):
        for book, faces, harms in cases(30, 185):
            papers = [judge_gap(book, faces, number, harms=harms, most=HUGE) for number in range(4)]
            for paper, number in itertools.product(papers, range(4)):
                right = is_plain_gap(book, faces, number, harms, paper)
                self.assertIs(gap_holds(book, faces, number, harms, paper), right)

    def test_a_gap_of_none(self):
        self.assertEqual(gap_for(TURNING, ALL_SAFE), 0)
        self.assertIs(gap_holds(TURNING, ALL_SAFE, 0, (), ("stays", ((((0,),), 0, 1),))), True)
        self.assertIs(gap_holds(TURNING, ALL_SAFE, 0, (), ("stays", ((((0,),), 0, 0),))), False)
        self.assertIs(gap_holds(TURNING, ALL_SAFE, 0, (), ("breaks", ((((0,),), 0, 0),))), False)
        self.assertIs(gap_holds(TURNING, ALL_SAFE[:1], 0, (), ("breaks", ((((0,),), 0, 0),))), True)
        self.assertIs(gap_holds(TURNING, ALL_SAFE[:1], 1, (), ("breaks", ((((0,),), 0, 0),))), False)
        rows = (((0,),), 0, 10**38), (((1,),), 1, 5)
        self.assertIs(gap_holds(TURNING, ALL_SAFE[:1], 1, (), ("breaks", rows)), True)
        rows = (((0,),), 0, 5), (((1,),), 1, 5)
        self.assertIs(gap_holds(TURNING, ALL_SAFE[:1], 1, (), ("breaks", rows)), False)


class Outside(unittest.TestCase):
    """Rows just outside of what is let, beside those that would do."""

    def test_gaps(self):
        rows = judge_gap(SLOW, ALL_SAFE, 3)[1]
        self.assertIs(gap_holds(SLOW, ALL_SAFE, 3, (), ("stays", rows)), True)
        for row in (
            (((2,),), -1, 0), (((2,),), 4, 0), (((2,),), 0, 0), ((), 0, 0), ((), 0, 1), (((3,),), 1, 0), (((3,),), 0, 2),
            (((3,),), 0, -1), (((2,),), 1, True), (((2,),), True, 0), (((4,),), 1, 0), (((),), 1, 0),
        ):  # fmt: skip
            thing = ("stays", tuple(sorted({*rows, row})))
            self.assertIs(gap_holds(SLOW, ALL_SAFE, 3, (), thing), False, row)
        rows = judge_gap(SLOW, ALL_SAFE, 2)[1]
        self.assertIs(gap_holds(SLOW, ALL_SAFE, 2, (), ("breaks", rows)), True)
        for row in ((((0,),), 3, 9), (((0,),), -1, 9), (((0,),), 0, 9), (((0,),), 1, -1), ((), 0, 9), (((3,),), 1, 9)):
            thing = ("breaks", tuple(sorted({*rows, row})))
            self.assertIs(gap_holds(SLOW, ALL_SAFE, 2, (), thing), False, row)

    def test_rounds(self):
        rows = judge_surely(SLOW, ALL_SAFE)[1]
        for row in (((), 0, 1), (((3,),), 0, 1), (((2, 3),), 0, 0), (((2, 3),), -1, 1), (((2, 3),), 2, 1), (((4,),), 0, 1)):
            thing = ("sure", tuple(sorted({*rows, row})))
            self.assertIs(surely_holds(SLOW, ALL_SAFE, (), thing), False, row)
        self.assertIs(surely_holds(SLOW, ALL_SAFE, (), ("sure", tuple(sorted({*rows, (((2, 3),), 0, 1)})))), True)
        rows = judge_rounds(SLOW, ALL_SAFE, 2)[1]
        for row in (((), 0), (((3,),), 0), (((2, 3),), -1), (((4,),), 0)):
            thing = ("late", tuple(sorted({*rows, row})))
            self.assertIs(rounds_hold(SLOW, ALL_SAFE, 2, (), thing), False, row)
        self.assertIs(rounds_hold(SLOW, ALL_SAFE, 2, (), ("late", tuple(sorted({*rows, (((2, 3),), 0)})))), True)
        lots = judge_surely(DOOR, ALL_SAFE[:1])[1]
        for lot in ((), ((1,),), ((2,),), ((),)):
            thing = ("never", tuple(sorted({*lots, lot})))
            self.assertIs(surely_holds(DOOR, ALL_SAFE[:1], (), thing), False, lot)


class AnyValue(unittest.TestCase):
    books = ((DOOR, ALL_SAFE, ()), (DOOR, RINGS, ("bell",)), (QUIET, FACES, ("shut",)), (SLOW, ALL_SAFE, ()),
             (TURNING, ALL_SAFE[:1], ()))  # fmt: skip
    parts = [None, True, False, 0, 1, 2, -1, "", "sure", (), [], (0,), ((0,),), ((1,),)]

    def test_surely(self):
        for book, faces, harms in self.books:
            for thing in [*wild_values(), *variants(judge_surely(book, faces, harms=harms), self.parts)]:
                found = calls_leave_alone(self, lambda value: surely_holds(book, faces, harms, value), thing)
                self.assertIs(found, is_plain_surely(book, faces, harms, thing), thing)

    def test_rounds(self):
        for (book, faces, harms), rounds in itertools.product(self.books, (0, 1, 3)):
            for thing in [*wild_values(), *variants(judge_rounds(book, faces, rounds, harms=harms), self.parts)]:
                found = calls_leave_alone(self, lambda value: rounds_hold(book, faces, rounds, harms, value), thing)
                self.assertIs(found, is_plain_rounds(book, faces, rounds, harms, thing), thing)

    def test_gaps(self):
        for (book, faces, harms), gap in itertools.product(self.books, (0, 1, 2)):
            for thing in [*wild_values(), *variants(judge_gap(book, faces, gap, harms=harms), self.parts)]:
                found = calls_leave_alone(self, lambda value: gap_holds(book, faces, gap, harms, value), thing)
                self.assertIs(found, is_plain_gap(book, faces, gap, harms, thing), thing)

    def test_other_numbers_and_lots(self):
        rng = random.Random(186)
        for book, faces, harms in cases(25, 186, 10):
            more = {"harms": harms, "most": HUGE}
            papers = [judge_surely(book, faces, **more)]
            papers += [judge_rounds(book, faces, number, **more) for number in (1, 3)]
            papers += [judge_gap(book, faces, number, **more) for number in (1, 3)]
            lots = [lot for lot in subsets(plain_wheres(book)[:4]) if lot]
            for word, rows in papers:
                for _ in range(6):
                    at = rng.randrange(len(rows) + 1)
                    row = rows[at] if at < len(rows) else rng.choice(rows) if rows else ((book.first,), 1, 0)
                    if word != "never":
                        place = rng.randrange(len(row))
                        part = rng.choice(lots) if place == 0 else max(0, row[place] + rng.choice((-1, 1)))
                        row = (*row[:place], part, *row[place + 1 :])
                    else:
                        row = rng.choice(lots)
                    thing = (word, tuple(sorted({*rows[:at], *rows[at + 1 :], row})))
                    self.check(book, faces, harms, thing)

    def check(self, book, faces, harms, thing):
        self.assertIs(surely_holds(book, faces, harms, thing), is_plain_surely(book, faces, harms, thing))
        for number in (0, 1, 3):
            right = is_plain_rounds(book, faces, number, harms, thing)
            self.assertIs(rounds_hold(book, faces, number, harms, thing), right)
            right = is_plain_gap(book, faces, number, harms, thing)
            self.assertIs(gap_holds(book, faces, number, harms, thing), right)


class TooManyLots(unittest.TestCase):
    def test_just_as_many_one_less_and_none(self):
        for book, faces, harms in cases(30, 187):
            many = len(lots_of(book, faces))
            for call in (
                lambda most: judge_surely(book, faces, harms=harms, most=most),
                lambda most: judge_rounds(book, faces, 2, harms=harms, most=most),
                lambda most: judge_gap(book, faces, 0, harms=harms, most=most),
            ):
                self.assertIsNone(error_of(call, many))
                for most in {many - 1, 0}:
                    error = error_of(call, most)
                    self.assertIs(type(error), TooMany)
                    self.assertEqual(error.most, most)

    def test_by_name_alone(self):
        self.assertIs(type(error_of(judge_surely, DOOR, ALL_SAFE, ())), TypeError)
        self.assertIs(type(error_of(judge_rounds, DOOR, ALL_SAFE, 1, ())), TypeError)
        self.assertIs(type(error_of(judge_gap, DOOR, ALL_SAFE, 1, ())), TypeError)

    def test_harms(self):
        book = Book((0, -1), ((0, 1, "a", (0, 1), (), ()), (1, 1, "", (0, 1), (), ())), (0,))
        faces = ((True, False), (False, True))
        found = [rounds_for(book, faces, harms=harms) for harms in SOME_HARMS]
        self.assertEqual(found, [1, 1, 1, None])
        self.assertEqual(plain_rounds(book, faces, ("bell", "shut"), lots_of(book, faces)), {((1,),): 0})


if __name__ == "__main__":
    unittest.main()

"""Points [28], [29], and bars.py."""

import itertools
import random
import unittest

from housewardens.bars import bars_paper, bars_paper_holds, barred_book, fewest_bars, is_bar
from housewardens.books import Book
from housewardens.errors import TooMany
from housewardens.keepers import can_keep, judge_keeping
from tests.helpers import (
    ALL_HARMS,
    FACES,
    HALL,
    HUGE,
    STREET,
    calls_leave_alone,
    error_of,
    exact,
    some_wards,
    subsets,
    variants,
    wild_values,
)
from tests.plain import (
    CLOCKED,
    NOOK,
    OPEN_SHUT,
    QUIET,
    THREE_FACES,
    do_ascend,
    is_number,
    is_plain_keeping,
    plain_lots_met,
    told,
)

RINGING = ((True, True),)


def bars_of(book):
    return subsets(range(len(book.moves)))


def without(book, bar):
    return Book(book.rooms, tuple(move for at, move in enumerate(book.moves) if at not in bar), book.first)


def cases(many, seed, most=30):
    rng = random.Random(seed)
    for book, harms in itertools.product((HALL, CLOCKED, QUIET, NOOK, STREET), (OPEN_SHUT, ("shut",))):
        yield book, FACES, harms
    yield NOOK, RINGING, ("bell",)
    for ward in some_wards(many, seed):
        faces = rng.choice((FACES, FACES, THREE_FACES, ((True, False),), ((False, False),)))
        if len(ward.book.moves) < 5 and plain_lots_met(ward.book, range(len(faces)), None, most):
            yield ward.book, faces, rng.choice(ALL_HARMS + [OPEN_SHUT] * 8)


def is_plain_paper(book, faces, harms, thing):
    """Whether any value is a paper of [29], by its words."""
    if type(thing) is not tuple or len(thing) < 3 or type(thing[0]) is not str or not is_number(thing[1], 0):
        return False
    if thing[0] == "barred" and len(thing) == 4 and thing[2] != ():
        tables = {"kept": thing[2], "refused": thing[3]}
    elif thing[0] == "no bar" and len(thing) == 3:
        tables = {"kept": (), "refused": thing[2]}
    else:
        return False
    rights = {exact(bar) for bar in bars_of(book)}
    found = []
    for word, pairs in tables.items():
        if type(pairs) is not tuple or any(type(pair) is not tuple or len(pair) != 2 for pair in pairs):
            return False
        if any(exact(bar) not in rights for bar, _ in pairs) or not do_ascend([bar for bar, _ in pairs]):
            return False
        for bar, paper in pairs:
            if not is_plain_keeping(without(book, bar), faces, harms, paper) or paper[0] != word:
                return False
            if word == "kept" and len(bar) != thing[1]:
                return False
            found.append(bar)
    return sorted(found) == sorted(bar for bar in bars_of(book) if len(bar) <= thing[1])


class Bars(unittest.TestCase):
    def test_barred_books(self):
        self.assertEqual(barred_book(HALL, (0, 2)), Book(HALL.rooms, (HALL.moves[1], HALL.moves[3]), HALL.first))
        self.assertEqual(barred_book(bar=(), book=HALL), HALL)
        self.assertEqual(barred_book(HALL, (0, 1, 2, 3)).moves, ())

    def test_any_value(self):
        for book in (HALL, STREET, Book((0,), (), (0,))):
            rights = {exact(bar) for bar in bars_of(book)}
            for thing in [*wild_values(), *variants((0, 1, 2)), *bars_of(book)]:
                found = calls_leave_alone(self, lambda value: is_bar(book, value), thing)
                self.assertIs(found, exact(thing) in rights, thing)
        self.assertIs(is_bar(thing=(3,), book=HALL), True)
        self.assertIs(is_bar(HALL, (4,)), False)


class Fewest(unittest.TestCase):
    def test_examples(self):
        self.assertEqual(fewest_bars(QUIET, FACES, OPEN_SHUT), ((1,), (2,), (3,)))
        self.assertEqual(fewest_bars(harms=OPEN_SHUT, faces=FACES, book=NOOK), ((),))
        self.assertIs(can_keep(barred_book(NOOK, (4,)), FACES, OPEN_SHUT), False)
        for book in (QUIET, NOOK, HALL):
            self.assertEqual(fewest_bars(book, RINGING, ("bell",)), ())

    def test_the_greatest_number(self):
        self.assertEqual(fewest_bars(QUIET, FACES, OPEN_SHUT, greatest=0), ())
        self.assertEqual(fewest_bars(QUIET, FACES, OPEN_SHUT, greatest=1), ((1,), (2,), (3,)))
        self.assertEqual(fewest_bars(NOOK, FACES, OPEN_SHUT, greatest=0), ((),))
        self.assertEqual(fewest_bars(STREET, RINGING, ("bell",), greatest=9), ())

    def test_against_every_bar(self):
        for book, faces, harms in cases(80, 161):
            rows = sorted(bars_of(book), key=lambda bar: (len(bar), bar))
            enough = [bar for bar in rows if can_keep(without(book, bar), faces, harms, most=HUGE)]
            for greatest in range(4):
                least = tuple(bar for bar in enough if len(bar) == len(enough[0]) and len(bar) <= greatest)
                self.assertEqual(fewest_bars(book, faces, harms, greatest=greatest, most=HUGE), least)

    def test_several_are_needed(self):
        moves = (*QUIET.moves, (0, 1, "a", (0, 1), (), ()))
        book = Book(QUIET.rooms, moves, QUIET.first)
        self.assertEqual(fewest_bars(book, FACES, OPEN_SHUT), ((2,), (3,)))
        self.assertEqual(fewest_bars(book, FACES[:1], ("open",)), ())
        whole = Book((0, -1), ((0, 1, "", (0,), (), ()), (0, 1, "a", (0,), (), ())), (0,))
        self.assertEqual(fewest_bars(whole, FACES[:1], ("open",)), ((0, 1),))
        self.assertEqual(fewest_bars(whole, FACES[:1], ("open",), greatest=1), ())
        self.assertEqual(bars_paper(whole, FACES[:1], ("open",))[:2], ("barred", 2))


class TooManyLots(unittest.TestCase):
    def test_for_some_book_that_is_looked_at(self):
        for book, faces, harms in cases(30, 162):
            for greatest in (0, 1, 3):
                found = fewest_bars(book, faces, harms, greatest=greatest, most=HUGE)
                last = len(found[0]) if found else greatest
                rows = [bar for bar in bars_of(book) if len(bar) <= last]
                many = max(len(plain_lots_met(without(book, bar), range(len(faces)), None, 10**6)) for bar in rows)
                for call in (fewest_bars, bars_paper):
                    call(book, faces, harms, greatest=greatest, most=many)
                    for most in {many - 1, 0}:
                        error = error_of(call, book, faces, harms, greatest=greatest, most=most)
                        self.assertIs(type(error), TooMany)
                        self.assertEqual(error.most, most)

    def test_by_name_alone(self):
        for call in (fewest_bars, bars_paper):
            self.assertIs(type(error_of(call, QUIET, FACES, (), 3)), TypeError)


class Papers(unittest.TestCase):
    def test_papers_hold(self):
        for book, faces, harms in cases(50, 163, 12):
            for greatest in (0, 1, 3, 9):
                paper = bars_paper(book, faces, harms, greatest=greatest, most=HUGE)
                fewest = fewest_bars(book, faces, harms, greatest=greatest, most=HUGE)
                self.assertEqual(paper[0], "barred" if fewest else "no bar")
                self.assertEqual(paper[1], len(fewest[0]) if fewest else greatest)
                self.assertEqual(tuple(bar for bar, _ in paper[2]) if fewest else (), fewest)
                self.assertIs(bars_paper_holds(book, faces, harms, paper), True)
                self.assertIs(is_plain_paper(book, faces, harms, paper), True)
                self.assertEqual(told(paper), told(bars_paper(book, faces, harms, greatest=greatest, most=HUGE)))

    def test_greater_numbers_than_moves(self):
        paper = bars_paper(STREET, RINGING, ("bell",), greatest=3)
        self.assertEqual(paper[:2], ("no bar", 3))
        for number in (2, 3, 4, 10**39):
            self.assertIs(bars_paper_holds(STREET, RINGING, ("bell",), ("no bar", number, paper[2])), True)
        for number in (0, 1, -1, True, "2", None):
            self.assertIs(bars_paper_holds(STREET, RINGING, ("bell",), ("no bar", number, paper[2])), False)
        for number in (2, 3, 10**39):
            self.assertIs(bars_paper_holds(STREET, RINGING, ("bell",), ("barred", number, (), paper[2])), False)

    def test_a_number_that_is_not_the_least(self):
        pairs = {bar: judge_keeping(without(QUIET, bar), FACES, OPEN_SHUT) for bar in bars_of(QUIET)}
        for number in range(6):
            rows = sorted(bar for bar in pairs if len(bar) <= number)
            kept = tuple((bar, pairs[bar]) for bar in rows if len(bar) == number and pairs[bar][0] == "kept")
            refused = tuple((bar, pairs[bar]) for bar in rows if pairs[bar][0] == "refused")
            thing = ("barred", number, kept, refused)
            self.assertIs(bars_paper_holds(QUIET, FACES, OPEN_SHUT, thing), number == 1)
            thing = ("no bar", number, refused)
            self.assertIs(bars_paper_holds(QUIET, FACES, OPEN_SHUT, thing), number == 0)

    def test_kept_bars_of_several_numbers(self):
        pairs = {bar: judge_keeping(without(QUIET, bar), FACES, OPEN_SHUT) for bar in bars_of(QUIET)}
        for number in range(5):
            rows = sorted(bar for bar in pairs if len(bar) <= number)
            kept = tuple((bar, pairs[bar]) for bar in rows if pairs[bar][0] == "kept")
            refused = tuple((bar, pairs[bar]) for bar in rows if pairs[bar][0] == "refused")
            thing = ("barred", number, kept, refused)
            self.assertIs(bars_paper_holds(QUIET, FACES, OPEN_SHUT, thing), number == 1)
        for number in (-1, -(10**39)):
            self.assertIs(bars_paper_holds(QUIET, FACES, OPEN_SHUT, ("no bar", number, ())), False)

    def test_a_greater_bar_in_the_place_of_one_that_is_missing(self):
        faces, harms = ((True, True),), ("bell",)
        pairs = [(bar, judge_keeping(barred_book(STREET, bar), faces, harms)) for bar in ((), (0,), (0, 1), (1,))]
        for number in range(4):
            for many in range(5):
                for rows in itertools.combinations(pairs, many):
                    right = {len(bar) <= number for bar, _ in pairs if bar not in dict(rows)} <= {False}
                    right = right and all(len(bar) <= number for bar, _ in rows)
                    self.assertIs(bars_paper_holds(STREET, faces, harms, ("no bar", number, rows)), right)

    def test_parts_more_less_exchanged(self):
        paper = bars_paper(QUIET, FACES, OPEN_SHUT)
        _, number, kept, refused = paper
        others = [
            ("barred", number, kept[1:], refused), ("barred", number, kept[::-1], refused),
            ("barred", number, kept, refused[1:]), ("barred", number, kept, refused[::-1]),
            ("barred", number, kept + kept[-1:], refused), ("barred", number, kept, refused + refused[-1:]),
            ("barred", number, refused, kept), ("barred", number, (), refused), ("barred", number, kept + refused, ()),
            ("barred", number, kept, refused, ()), ("barred", number, kept), ("no bar", number, refused),
            ("barred", number, ((kept[0][0], kept[1][1]), *kept[1:]), refused),
            ("barred", number, kept, ((refused[0][0], refused[1][1]), *refused[1:])),
        ]  # fmt: skip
        for thing in others:
            self.assertIs(bars_paper_holds(QUIET, FACES, OPEN_SHUT, thing), is_plain_paper(QUIET, FACES, OPEN_SHUT, thing))
        self.assertIs(bars_paper_holds(thing=paper, harms=OPEN_SHUT, faces=FACES, book=QUIET), True)
        self.assertIs(bars_paper_holds(QUIET, FACES, ("shut",), paper), False)

    def test_any_value(self):
        parts = [None, True, 0, 1, 2, -1, "kept", (), [], (0,), (1,)]
        for book, faces, harms in ((STREET, RINGING, ("bell",)), (QUIET, FACES, OPEN_SHUT), (STREET, FACES, ("shut",))):
            paper = bars_paper(book, faces, harms, greatest=1)
            for thing in [*wild_values(), *variants(paper, parts)]:
                found = calls_leave_alone(self, lambda value: bars_paper_holds(book, faces, harms, value), thing)
                self.assertIs(found, is_plain_paper(book, faces, harms, thing), thing)


if __name__ == "__main__":
    unittest.main()

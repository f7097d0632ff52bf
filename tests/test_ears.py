"""Points [20] to [23], and ears.py."""

import itertools
import random
import unittest

from housewardens.books import Book
from housewardens.ears import (
    choices_paper,
    choices_paper_holds,
    ears_paper,
    ears_paper_holds,
    least_choices,
    least_ears,
)
from housewardens.errors import TooMany
from housewardens.keepers import can_keep, judge_keeping
from tests.helpers import (
    ALL_HARMS,
    FACES,
    HALL,
    HUGE,
    STREET,
    calls_leave_alone,
    error_of,
    some_wards,
    subsets,
    variants,
    wild_values,
)
from tests.plain import (
    CLOCKED,
    LOUD_HALL,
    NOOK,
    OPEN_SHUT,
    QUIET,
    THREE_FACES,
    do_ascend,
    is_plain_keeping,
    plain_lots_met,
    told,
)

SILENT = Book((-1, 0), ((0, 0, "", (0, 1), (), ()), (0, 1, "", (0, 1), (), ()), (1, 1, "", (0,), (), ())), (0,))
# Whoever is inside is heard by two letters at once.
TWINS = Book((-1, 0), tuple((*move[:2], "ab" * (move[1] > 0), *move[3:]) for move in CLOCKED.moves), (0,))


def ears_of(book):
    letters = sorted({letter for move in book.moves for letter in move[2]})
    return sorted("".join(row) for row in subsets(letters))


def choices_of(faces):
    return sorted(row for row in subsets(range(len(faces))) if row)


def least(rows):
    return tuple(row for row in rows if not any(set(other) < set(row) for other in rows))


def many_lots(book, faces, ears, choice):
    return len(plain_lots_met(book, range(len(faces)) if choice is None else choice, ears, 10**6))


def cases(many, seed, most=30):
    """Books, faces and harms, with few lots by all ears and faces."""
    rng = random.Random(seed)
    for book, harms in itertools.product((HALL, LOUD_HALL, CLOCKED, QUIET, NOOK, SILENT), (OPEN_SHUT, ("shut",), ())):
        yield book, FACES, harms
    for ward in some_wards(many, seed):
        faces = rng.choice((FACES, THREE_FACES))
        harms = rng.choice(ALL_HARMS + [OPEN_SHUT] * 8)
        if plain_lots_met(ward.book, range(len(faces)), None, most):
            yield ward.book, faces, harms


def is_plain_paper(word, book, faces, harms, thing, other):
    """Whether any value is a paper of [23], by its words; other is a choice for ears, ears for choices."""
    if type(thing) is not tuple or len(thing) != 3 or type(thing[0]) is not str or thing[0] != word:
        return False
    for name, pairs in zip(("kept", "refused"), thing[1:]):
        if type(pairs) is not tuple or any(type(pair) is not tuple or len(pair) != 2 for pair in pairs):
            return False
        if word == "ears":
            rows = [row for row, _ in pairs]
            if any(type(row) is not str or not set(row) <= set("abcdefghijklmnopqrstuvwxyz") for row in rows):
                return False
            if any(sorted(set(row)) != list(row) for row in rows):
                return False
        elif any(told(row) not in {told(right) for right in choices_of(faces)} for row, _ in pairs):
            return False
        if not do_ascend([row for row, _ in pairs]):
            return False
        for row, paper in pairs:
            ears, choice = (row, other) if word == "ears" else (other, row)
            if not is_plain_keeping(book, faces, harms, paper, ears, choice) or paper[0] != name:
                return False
    for row in ears_of(book) if word == "ears" else choices_of(faces):
        kept = any(set(part) <= set(row) for part, _ in thing[1])
        if not kept and not any(set(row) <= set(whole) for whole, _ in thing[2]):
            return False
    return True


class Least(unittest.TestCase):
    def test_examples(self):
        self.assertEqual(least_ears(CLOCKED, FACES, OPEN_SHUT), ("ac",))
        self.assertEqual(least_choices(CLOCKED, FACES, OPEN_SHUT), ((0, 1),))
        self.assertEqual(least_ears(harms=("shut",), faces=FACES, book=CLOCKED), ("",))
        self.assertEqual(least_choices(harms=("shut",), faces=FACES, book=CLOCKED), ((0,),))

    def test_none(self):
        self.assertEqual(least_ears(HALL, FACES, OPEN_SHUT), ())
        self.assertEqual(least_choices(HALL, FACES, OPEN_SHUT), ())
        self.assertEqual(least_ears(CLOCKED, FACES, OPEN_SHUT, choice=(0,)), ())
        self.assertEqual(least_choices(CLOCKED, FACES, OPEN_SHUT, ears="ab"), ())
        self.assertEqual(least_choices(CLOCKED, FACES, OPEN_SHUT, ears="acxz"), ((0, 1),))

    def test_a_book_without_letters(self):
        self.assertEqual(least_ears(SILENT, FACES, ("shut",)), ("",))
        self.assertEqual(least_ears(SILENT, FACES, OPEN_SHUT), ())
        self.assertEqual(least_ears(SILENT, FACES, ()), ("",))

    def test_against_every_one(self):
        for book, faces, harms in cases(60, 151):
            for choice in (None, (0,), (0, 1)):
                kept = [ears for ears in ears_of(book) if self.keeps(book, faces, harms, ears, choice)]
                found = least_ears(book, faces, harms, choice=choice, most=HUGE)
                self.assertEqual(found, least(kept))
            for ears in (None, "", "ab"):
                kept = [choice for choice in choices_of(faces) if self.keeps(book, faces, harms, ears, choice)]
                self.assertEqual(least_choices(book, faces, harms, ears=ears, most=HUGE), least(kept))

    def test_several(self):
        self.assertEqual(least_ears(TWINS, FACES, OPEN_SHUT), ("a", "b"))
        faces = (*FACES, (False, False))
        book = Book((-1,), ((0, 0, "", (0, 1, 2), (), ()),), (0,))
        self.assertEqual(least_choices(book, faces, ("shut",)), ((0,), (1,), (2,)))
        self.assertEqual(least_choices(book, faces, ("open",)), ((1,),))

    def keeps(self, book, faces, harms, ears, choice):
        return can_keep(book, faces, harms, ears=ears, choice=choice, most=HUGE)


class TooManyLots(unittest.TestCase):
    def test_for_some_of_the_ears_or_choices(self):
        for book, faces, harms in cases(25, 152):
            many = max(many_lots(book, faces, ears, (0, 1)) for ears in ears_of(book))
            for call in (least_ears, ears_paper):
                call(book, faces, harms, choice=(0, 1), most=many)
                for most in {many - 1, 0}:
                    error = error_of(call, book, faces, harms, choice=(0, 1), most=most)
                    self.assertIs(type(error), TooMany)
                    self.assertEqual(error.most, most)
            many = max(many_lots(book, faces, "ab", choice) for choice in choices_of(faces))
            for call in (least_choices, choices_paper):
                call(book, faces, harms, ears="ab", most=many)
                for most in {many - 1, 0}:
                    error = error_of(call, book, faces, harms, ears="ab", most=most)
                    self.assertIs(type(error), TooMany)
                    self.assertEqual(error.most, most)

    def test_even_if_the_answer_hangs_on_few(self):
        many = max(many_lots(CLOCKED, FACES, ears, None) for ears in ears_of(CLOCKED))
        self.assertEqual(least_ears(CLOCKED, FACES, (), most=many), ("",))
        error = error_of(least_ears, CLOCKED, FACES, (), most=many_lots(CLOCKED, FACES, "", None))
        self.assertIs(type(error), TooMany)

    def test_by_name_alone(self):
        for call in (least_ears, least_choices, ears_paper, choices_paper):
            self.assertIs(type(error_of(call, CLOCKED, FACES, (), None)), TypeError)
        for call in (ears_paper_holds, choices_paper_holds):
            self.assertIs(type(error_of(call, CLOCKED, FACES, (), (), None)), TypeError)


class Papers(unittest.TestCase):
    def test_papers_hold(self):
        for book, faces, harms in cases(40, 153, 12):
            for choice in (None, (0,)):
                paper = ears_paper(book, faces, harms, choice=choice, most=HUGE)
                self.assertIs(ears_paper_holds(book, faces, harms, paper, choice=choice), True)
                self.assertIs(is_plain_paper("ears", book, faces, harms, paper, choice), True)
                kept = [ears for ears, _ in paper[1]]
                self.assertEqual(least(kept), least_ears(book, faces, harms, choice=choice, most=HUGE))
                self.assertIs(choices_paper_holds(book, faces, harms, paper), False)
            for ears in (None, "a"):
                paper = choices_paper(book, faces, harms, ears=ears, most=HUGE)
                self.assertIs(choices_paper_holds(book, faces, harms, paper, ears=ears), True)
                self.assertIs(is_plain_paper("choices", book, faces, harms, paper, ears), True)
                self.assertIs(ears_paper_holds(book, faces, harms, paper), False)
                self.assertEqual(told(paper), told(choices_paper(book, faces, harms, ears=ears, most=HUGE)))

    def all_pairs(self, rows):
        """All papers for some rows, kept ones and refused ones."""
        papers = {row: judge_keeping(CLOCKED, FACES, OPEN_SHUT, ears=row) for row in rows}
        kept = tuple((row, papers[row]) for row in sorted(papers) if papers[row][0] == "kept")
        return kept, tuple((row, papers[row]) for row in sorted(papers) if papers[row][0] == "refused")

    def test_ears_papers_of_other_hands(self):
        kept, refused = self.all_pairs([*ears_of(CLOCKED), "acz", "abcxyz", "abz", "xz"])
        self.assertEqual([ears for ears, _ in kept], ["abc", "abcxyz", "ac", "acz"])
        for one, other in itertools.product(subsets(range(len(kept))), subsets(range(len(refused)))):
            if len(other) > 3 and len(one) > 1:
                continue
            thing = ("ears", tuple(kept[at] for at in one), tuple(refused[at] for at in other))
            told_of = all(
                any(set(part) <= set(row) for part, _ in thing[1]) or any(set(row) <= set(all_) for all_, _ in thing[2])
                for row in ears_of(CLOCKED)
            )
            self.assertIs(ears_paper_holds(CLOCKED, FACES, OPEN_SHUT, thing), told_of)

    def test_kept_ears_that_are_not_least(self):
        kept, refused = self.all_pairs(ears_of(CLOCKED))
        self.assertIs(ears_paper_holds(CLOCKED, FACES, OPEN_SHUT, ("ears", kept, refused)), True)
        self.assertIs(ears_paper_holds(CLOCKED, FACES, OPEN_SHUT, ("ears", kept[:1], refused)), False)
        self.assertIs(ears_paper_holds(CLOCKED, FACES, OPEN_SHUT, ("ears", kept[1:], refused)), True)
        self.assertIs(ears_paper_holds(CLOCKED, FACES, OPEN_SHUT, ("ears", kept[::-1], refused)), False)
        self.assertIs(ears_paper_holds(CLOCKED, FACES, OPEN_SHUT, ("ears", kept[:1] + kept, refused)), False)
        self.assertIs(ears_paper_holds(CLOCKED, FACES, OPEN_SHUT, ("ears", refused, kept)), False)
        self.assertIs(ears_paper_holds(CLOCKED, FACES, OPEN_SHUT, ("ears", kept, refused), choice=(0,)), False)
        self.assertIs(ears_paper_holds(CLOCKED, FACES, ("shut",), ("ears", kept, refused)), False)

    def test_choices_papers_of_other_hands(self):
        rows = choices_of(FACES)
        papers = {row: judge_keeping(CLOCKED, FACES, OPEN_SHUT, choice=row) for row in rows}
        kept = (((0, 1), papers[0, 1]),)
        refused = (((0,), papers[0,]), ((1,), papers[1,]))
        self.assertIs(choices_paper_holds(CLOCKED, FACES, OPEN_SHUT, ("choices", kept, refused)), True)
        self.assertIs(choices_paper_holds(CLOCKED, FACES, OPEN_SHUT, ("choices", kept, refused[:1])), False)
        self.assertIs(choices_paper_holds(CLOCKED, FACES, OPEN_SHUT, ("choices", (), refused)), False)
        self.assertIs(choices_paper_holds(CLOCKED, FACES, OPEN_SHUT, ("choices", kept, refused[::-1])), False)
        self.assertIs(choices_paper_holds(CLOCKED, FACES, OPEN_SHUT, ("choices", kept, refused), ears="b"), False)
        empty = (((), papers[0,]), *refused)
        self.assertIs(choices_paper_holds(CLOCKED, FACES, OPEN_SHUT, ("choices", kept, empty)), False)
        for row in ((-1,), (True,), (1, 0), (0, 0)):
            thing = ("choices", kept, tuple(sorted((*refused, (row, papers[1,])))))
            self.assertIs(choices_paper_holds(CLOCKED, FACES, OPEN_SHUT, thing), False)
            thing = ("choices", tuple(sorted((*kept, (row, papers[0, 1])))), refused)
            self.assertIs(choices_paper_holds(CLOCKED, FACES, OPEN_SHUT, thing), False)
        thing = ("choices", (((-1, 0, 1), papers[0, 1]), *kept), refused)
        self.assertIs(choices_paper_holds(CLOCKED, FACES, OPEN_SHUT, thing), False)
        beyond = (*refused, ((1, 2), papers[1,]))
        self.assertIs(choices_paper_holds(CLOCKED, FACES, OPEN_SHUT, ("choices", kept, beyond)), False)

    def test_any_value(self):
        parts = [None, True, 0, 1, -1, "", "a", "kept", "refused", (), [], (0,), (0, 1)]
        for book, harms in ((STREET, ("shut",)), (CLOCKED, OPEN_SHUT)):
            paper = ears_paper(book, FACES, harms, choice=(0,))
            for thing in [*wild_values(), *variants(paper, parts)]:
                found = calls_leave_alone(
                    self, lambda value: ears_paper_holds(book, FACES, harms, value, choice=(0,)), thing
                )
                self.assertIs(found, is_plain_paper("ears", book, FACES, harms, thing, (0,)), thing)
            paper = choices_paper(book, FACES, harms, ears="")
            for thing in [*wild_values(), *variants(paper, parts)]:
                found = calls_leave_alone(
                    self, lambda value: choices_paper_holds(book, FACES, harms, value, ears=""), thing
                )
                self.assertIs(found, is_plain_paper("choices", book, FACES, harms, thing, ""), thing)


if __name__ == "__main__":
    unittest.main()

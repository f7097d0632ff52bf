"""Point [7] and the second half of wards.py: harms, papers, first runs."""

import unittest

from housewardens.books import Book
from housewardens.devices import Device
from housewardens.errors import TooMany
from housewardens.wards import (
    Ward,
    along,
    first_run_to,
    has_harm,
    is_run,
    judge_ward,
    pictures_of,
    ward_holds,
)
from tests.helpers import (
    ALL_HARMS,
    FACES,
    HALL,
    HARMS,
    HUGE,
    PLAIN,
    STREET,
    STREET_WARD,
    WARD,
    calls_leave_alone,
    error_of,
    exact,
    plain_harm,
    plain_pictures,
    plain_runs,
    plain_ticks,
    plain_wheres,
    some_wards,
    subsets,
    variants,
    wild_values,
)


def is_plain_paper(ward, harms, thing, rights, runs):
    """Whether a value is a paper: rights are all pictures exactly told, runs the last pictures of runs likewise."""
    if type(thing) is not tuple or len(thing) not in (2, 3) or type(thing[0]) is not str:
        return False
    if len(thing) == 2 and thing[0] == "kept":
        pictures = thing[1]
        if type(pictures) is not tuple or not all(exact(picture) in rights for picture in pictures):
            return False
        if list(pictures) != sorted(set(pictures)) or (ward.book.first, 0) not in pictures:
            return False
        if any(plain_harm(ward, picture, harm) for picture in pictures for harm in harms):
            return False
        return all(further in pictures for picture in pictures for _, _, further in plain_ticks(ward, picture))
    if len(thing) == 3 and thing[0] == "harm":
        last = runs.get(exact(thing[1]))
        return type(thing[2]) is str and thing[2] in harms and last is not None and plain_harm(ward, last, thing[2])
    return False


def all_pictures(ward):
    return [(where, state) for where in plain_wheres(ward.book) for state in range(len(ward.device))]


class Harms(unittest.TestCase):
    def test_examples(self):
        self.assertIs(has_harm(WARD, ((0, 1), 1), "shut"), True)
        self.assertEqual(first_run_to(WARD, "shut"), ((0, 1),))
        self.assertEqual(judge_ward(WARD, ("bell",))[0], "kept")

    def test_shut(self):
        self.assertIs(has_harm(WARD, ((0,), 1), "shut"), False)
        self.assertIs(has_harm(WARD, ((1,), 0), "shut"), False)
        self.assertIs(has_harm(harm="shut", picture=((2,), 1), ward=WARD), True)

    def test_bell(self):
        ward = Ward(HALL, ((False, True), (True, False)), PLAIN)
        self.assertIs(has_harm(ward, ((0,), 0), "bell"), True)
        self.assertIs(has_harm(ward, ((1,), 0), "bell"), True)
        self.assertIs(has_harm(ward, ((1,), 1), "bell"), False)

    def test_open(self):
        self.assertIs(has_harm(WARD, ((0,), 0), "open"), True)
        self.assertIs(has_harm(WARD, ((0, 1), 0), "open"), False)
        self.assertIs(has_harm(WARD, ((0,), 1), "open"), False)
        late = Ward(HALL, FACES, Device((0, 0, 1), (), (1, 2, 2)))
        self.assertIs(has_harm(late, ((0,), 0), "open"), False)

    def test_open_is_asked_of_the_device_alone(self):
        loud = Book((-1,), ((0, 0, "a", (0, 1), (), ()),), (0,))
        ward = Ward(loud, FACES, Device((0, 1), ((0, "a", 0),), (1, 1)))
        self.assertEqual(pictures_of(ward), (((0,), 0),))
        self.assertIs(has_harm(ward, ((0,), 0), "open"), False)

    def test_some_wards(self):
        for ward in some_wards(80, 21):
            for picture in all_pictures(ward):
                for harm in HARMS:
                    self.assertIs(has_harm(ward, picture, harm), plain_harm(ward, picture, harm))


class Met(unittest.TestCase):
    def test_pictures(self):
        for ward in [WARD, STREET_WARD, *some_wards(100, 22)]:
            pictures = plain_pictures(ward)
            many = len(pictures)
            self.assertEqual(pictures_of(ward), pictures)
            self.assertEqual(pictures_of(ward=ward, most=many), pictures)
            for most in {many - 1, 0}:
                error = error_of(pictures_of, ward, most=most)
                self.assertIs(type(error), TooMany)
                self.assertEqual(error.most, most)

    def test_more_than_sixty(self):
        book = Book((0, 1, 2), tuple((k, t, "a" * (t > k), (0,), (), ()) for k in range(3) for t in range(3)), (0,))
        many = 20
        device = Device((0,) * many, (), (*range(1, many), 0))
        ward = Ward(book, ((False, False),), device)
        self.assertGreater(len(plain_pictures(ward)), 60)
        for call in (
            lambda: pictures_of(ward),
            lambda: judge_ward(ward, ("open",)),
            lambda: first_run_to(ward, "open"),
        ):
            error = error_of(call)
            self.assertIs(type(error), TooMany)
            self.assertEqual(error.most, 60)
        self.assertEqual(pictures_of(ward, most=HUGE), plain_pictures(ward))

    def test_most_is_passed_by_name(self):
        self.assertIs(type(error_of(pictures_of, WARD, 60)), TypeError)
        self.assertIs(type(error_of(judge_ward, WARD, (), 60)), TypeError)
        self.assertIs(type(error_of(first_run_to, WARD, "shut", 60)), TypeError)


class Judging(unittest.TestCase):
    def test_just_one_kind_of_paper(self):
        for ward in [WARD, STREET_WARD, *some_wards(60, 23)]:
            pictures = plain_pictures(ward)
            for harms in ALL_HARMS:
                paper = judge_ward(ward, harms)
                self.assertIs(ward_holds(ward, harms, paper), True)
                met = [harm for harm in harms if any(plain_harm(ward, picture, harm) for picture in pictures)]
                if met:
                    self.assertEqual(paper[0], "harm")
                    self.assertIs(is_run(ward, paper[1]), True)
                    self.assertIn(paper[2], met)
                    self.assertIs(plain_harm(ward, along(ward, paper[1])[-1], paper[2]), True)
                else:
                    self.assertEqual(paper[0], "kept")
                    self.assertEqual(paper[1], tuple(sorted(paper[1])))
                self.assertEqual(exact(paper), exact(judge_ward(harms=harms, ward=ward, most=len(pictures))))

    def test_too_many(self):
        for ward in [WARD, STREET_WARD, *some_wards(30, 24)]:
            many = len(plain_pictures(ward))
            for harms in ALL_HARMS:
                for most in {many - 1, 0}:
                    error = error_of(judge_ward, ward, harms, most=most)
                    self.assertIs(type(error), TooMany)
                    self.assertEqual(error.most, most)

    def test_first_runs(self):
        for ward in [WARD, STREET_WARD, *some_wards(60, 25)]:
            many = len(plain_pictures(ward))
            for harm in HARMS:
                first = first_run_to(ward, harm, most=many)
                self.assertEqual(first, first_run_to(harm=harm, ward=ward))
                error = error_of(first_run_to, ward, harm, most=many - 1)
                self.assertIs(type(error), TooMany)
                self.assertEqual(error.most, many - 1)
                longest = 2 if first is None else min(3, len(first))
                rows = [run for run, picture in plain_runs(ward, longest) if plain_harm(ward, picture, harm)]
                if first is None:
                    self.assertFalse(any(plain_harm(ward, picture, harm) for picture in plain_pictures(ward)))
                elif len(first) <= longest:
                    self.assertEqual(first, rows[0])
                else:
                    self.assertEqual(rows, [])

    def test_a_harm_at_first(self):
        ward = Ward(HALL, ((True, True), (False, False)), PLAIN)
        self.assertEqual(first_run_to(ward, "shut"), ())
        self.assertEqual(first_run_to(ward, "bell"), ())
        self.assertEqual(judge_ward(ward, ("bell",)), ("harm", (), "bell"))
        self.assertIs(type(error_of(first_run_to, ward, "bell", most=0)), TooMany)

    def test_no_harm_asked(self):
        self.assertEqual(judge_ward(STREET_WARD, ())[0], "kept")
        self.assertIs(ward_holds(STREET_WARD, (), ("harm", (), "open")), False)


class Papers(unittest.TestCase):
    def test_each_closed_table_and_no_other(self):
        for ward in (STREET_WARD, Ward(STREET, FACES, Device((0, 1), ((0, "x", 1),), (0, 1)))):
            pictures = all_pictures(ward)
            rights = {exact(picture) for picture in pictures}
            for rows in subsets(pictures):
                for harms in ALL_HARMS:
                    paper = ("kept", rows)
                    self.assertIs(ward_holds(ward, harms, paper), is_plain_paper(ward, harms, paper, rights, {}))

    def test_any_value(self):
        quiet = Ward(HALL, ((False, False), (False, False)), PLAIN)
        for ward, harms in ((WARD, ("shut",)), (WARD, ("bell", "shut")), (STREET_WARD, ("open",)), (quiet, ("bell",))):
            rights = {exact(picture) for picture in all_pictures(ward)}
            runs = {exact(run): picture for run, picture in plain_runs(ward, 2)}
            paper = judge_ward(ward, harms)
            short = ("harm", ((0, 1),), "shut")
            for thing in [*wild_values(), *variants(paper), *variants(short)]:
                if type(thing) is tuple and len(thing) == 3 and type(thing[1]) is tuple and len(thing[1]) > 2:
                    continue
                right = is_plain_paper(ward, harms, thing, rights, runs)
                found = calls_leave_alone(self, lambda told: ward_holds(ward, harms, told), thing)
                self.assertIs(found, right, thing)

    def test_papers_for_other_questions(self):
        self.assertIs(ward_holds(WARD, ("shut",), ("harm", ((0, 1),), "shut")), True)
        self.assertIs(ward_holds(WARD, ("bell",), ("harm", ((0, 1),), "shut")), False)
        self.assertIs(ward_holds(WARD, (), ("harm", ((0, 1),), "shut")), False)
        self.assertIs(ward_holds(WARD, ("shut",), ("harm", ((0,),), "shut")), False)
        self.assertIs(ward_holds(thing=("kept", pictures_of(WARD)), harms=("bell",), ward=WARD), True)
        self.assertIs(ward_holds(WARD, ("bell", "shut"), ("kept", pictures_of(WARD))), False)

    def test_the_last_picture_counts(self):
        self.assertIs(ward_holds(STREET_WARD, ("open",), ("harm", ((1,), ()), "open")), True)
        self.assertIs(ward_holds(STREET_WARD, ("open",), ("harm", ((0, 1),), "open")), False)
        ward = Ward(STREET, ((False, False), (False, True)), Device((0, 1), (), (1, 0)))
        self.assertIs(ward_holds(ward, ("bell",), ("harm", ((0,),), "bell")), True)
        self.assertIs(ward_holds(ward, ("bell",), ("harm", ((0,), ()), "bell")), False)


if __name__ == "__main__":
    unittest.main()

"""Rounds and gaps: how soon, and how often, it can be made sure that nobody is within."""

from housewardens.books import has_somebody
from housewardens.plays import Play


def is_sure(book, lot):
    """Whether in no where of a lot somebody is within."""
    return not any([has_somebody(book, where) for where in lot])


def rounds_toward(things, rows_of, goals):
    """The rounds of things: 0 for goals, else the least number such that some row of it has only less rounds.

    A thing has rows of things; those that never come to goals have no rounds.
    """
    found = {goal: 0 for goal in goals}
    left = [thing for thing in things if thing not in found]
    fresh = goals
    number = 0
    while fresh:
        number += 1
        fresh = [thing for thing in left if any([are_among(row, found) for row in rows_of(thing)])]
        for thing in fresh:
            found[thing] = number
        left = [thing for thing in left if thing not in found]
    return found


def are_among(row, found):
    """Whether all things of a row are keys of a dict."""
    return all([thing in found for thing in row])


def rounds_lost(things, rows_of):
    """The rounds in which things are lost: those each of whose rows has a thing that was lost in an earlier one.

    So what has no rows is lost in the round 0, and what has a row without things never is.
    """
    rows = {thing: rows_of(thing) for thing in things}
    ahead = {thing: [] for thing in things}
    for thing in things:
        for row in rows[thing]:
            for further in row:
                ahead[further].append(thing)
    found = {}
    fresh = things
    number = 0
    while fresh:
        fresh = [thing for thing in fresh if thing not in found and are_all_lost(rows[thing], found)]
        for thing in fresh:
            found[thing] = number
        fresh = sorted({thing for further in fresh for thing in ahead[further]})
        number += 1
    return found


def are_all_lost(rows, found):
    """Whether each of some rows has a thing that is a key of a dict."""
    return all([any([thing in found for thing in row]) for row in rows])


class Rounds:
    """The lots that are met in a book, and the rounds in which they become sure."""

    def __init__(self, book, faces, harms, most):
        self.play = Play(book, faces, harms)
        self.lots = self.play.lots_met(most)
        self.sure = [lot for lot in self.lots if is_sure(book, lot)]
        self.unsure = [lot for lot in self.lots if not is_sure(book, lot)]
        self.number = self.rounds_to(self.sure)

    def rounds_to(self, goals):
        """The rounds of lots that are not sure until one of some sure ones comes."""
        return rounds_toward(self.unsure, lambda lot: self.play.safe_targets(lot), goals)

    def faces_within(self, lot, number, greatest):
        """The safe faces of a lot all of whose answers have at most so many rounds."""
        pairs = list(zip(self.play.safe(lot), self.play.safe_targets(lot)))
        return [face for face, row in pairs if all([number.get(target, greatest + 1) <= greatest for target in row])]

    def face_toward(self, lot):
        """The least safe face all of whose answers have less rounds than a lot has."""
        return self.faces_within(lot, self.number, self.number[lot] - 1)[0]

    def never(self):
        """The paper of all lots that never become sure."""
        return "never", tuple(sorted([lot for lot in self.lots if lot not in self.number]))

    def surer(self):
        """The device that makes sure in as few rounds as can be, if any does."""
        shown = {lot: self.face_toward(lot) for lot in self.number if self.number[lot] > 0}
        return self.play.device_along(self.play.lots_along(shown), shown, 0)

    def rounds_with_gap(self, gap):
        """The rounds of lots from which some device stays sure with such gaps: 0 for the sure ones among them."""
        goals = self.sure
        while True:
            number = self.rounds_to(goals)
            left = [lot for lot in goals if self.faces_within(lot, number, gap)]
            if len(left) == len(goals):
                return number
            goals = left

    def does_stay(self, gap):
        """Whether some device stays sure with gaps of at most so many lots."""
        return self.rounds_with_gap(gap).get(self.play.first, gap + 1) <= gap

    def gap(self):
        """The least gap with which some device stays sure, or None."""
        low, high = 0, len(self.lots)
        if not self.does_stay(high):
            return None
        while low < high:
            middle = (low + high) // 2
            if self.does_stay(middle):
                high = middle
            else:
                low = middle + 1
        return low

    def faces_to_stay(self, gap):
        """The face for each lot with which some device stays sure with such gaps, if any does."""
        number = self.rounds_with_gap(gap)
        shown = {lot: self.faces_within(lot, number, number[lot] - 1) for lot in number if 0 < number[lot] <= gap}
        for lot in number:
            if number[lot] == 0:
                shown[lot] = self.faces_within(lot, number, gap)
        return {lot: faces[0] for lot, faces in shown.items()}

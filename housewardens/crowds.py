"""Crowds: how many people are in each standing, and where they can go."""

from housewardens.books import heard_of, open_by_standing
from housewardens.searches import all_met


def first_crowds(ward, many):
    """The crowds in which so many people begin, ascending."""
    return crowds_in(len(ward.book), ward.book.first, many)


def first_pairs(ward, many):
    """The pairs in which so many people begin, ascending."""
    return [(crowd, 0) for crowd in first_crowds(ward, many)]


def crowds_in(standings, where, many):
    """All crowds of so many people whose where this is, ascending."""
    rows = [()] if many >= len(where) else []
    for standing in range(standings):
        if standing in where:
            later = len([place for place in where if place > standing])
            rows = [(*row, part) for row in rows for part in range(1, many - sum(row) - later + 1)]
        else:
            rows = [(*row, 0) for row in rows]
    return tuple([row for row in rows if sum(row) == many])


def where_of(crowd):
    """The standings in which somebody of a crowd is."""
    return tuple([standing for standing, many in enumerate(crowd) if many > 0])


def picture_of(pair):
    """The picture of a pair of a crowd and a state."""
    crowd, state = pair
    return where_of(crowd), state


def shares(numbers, many):
    """All ways in which so many people make each one of some moves, those alike once."""
    rows = [()]
    for _ in range(many):
        rows = [(*row, number) for row in rows for number in numbers if not row or number >= row[-1]]
    return rows


class Throng:
    """A ward in which people are counted; it keeps the goings of crowds that it worked out."""

    def __init__(self, ward):
        self.ward = ward
        self._goings = {}

    def goings(self, crowd, face):
        """All choices that a crowd can make at a face, each with what is heard and the crowd behind it."""
        if (crowd, face) not in self._goings:
            self._goings[crowd, face] = goings_of(self.ward.book, crowd, face)
        return self._goings[crowd, face]

    def leads(self, pair):
        """All choices of a pair, each with the pair behind it, ascending."""
        crowd, state = pair
        device = self.ward.device
        rows = self.goings(crowd, device.shown[state])
        return [(choice, (further, device.led(state, heard))) for choice, heard, further in rows]

    def behind(self, pair):
        """The pairs to which one tick leads, ascending."""
        return sorted({further for _, further in self.leads(pair)})

    def met(self, many, most=None):
        """All pairs in which so many people can be, ascending; raises TooMany(most) if these are more than most."""
        starts = first_pairs(self.ward, many)
        return tuple(sorted(all_met(starts, lambda pair: self.behind(pair), most)))


def goings_of(book, crowd, face):
    """All choices that a crowd can make at a face, each with what is heard and the crowd behind it, ascending."""
    rows = [()]
    still = list(crowd)
    for standing, numbers in open_by_standing(book, where_of(crowd), face):
        if numbers:
            still[standing] = 0
            rows = [row + share for row in rows for share in shares(numbers, crowd[standing])]
    found = sorted({(tuple(sorted(set(row))), crowd_with(book, still, row)) for row in rows})
    return [(choice, heard_of(book, choice), further) for choice, further in found]


def crowd_with(book, still, made):
    """The crowd of those who stay put and of those who make these moves."""
    crowd = list(still)
    for number in made:
        crowd[book.moves[number][1]] += 1
    return tuple(crowd)


def crowds_behind(ward, pair):
    """The pairs to which one tick leads from a pair of a crowd and a state, ascending."""
    return tuple(Throng(ward).behind(pair))


def crowds_met(ward, many, *, most=1500):
    """All pairs in which so many people can be, ascending; raises TooMany(most) if these are more than most."""
    return Throng(ward).met(many, most)

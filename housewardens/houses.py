"""Houses: a book with what can be heard in it, each where and lot worked out once."""

from housewardens.books import outcomes


def letters_among(heard, ears):
    """The letters of a heard string that are among some ears; None stands for all letters."""
    return heard if ears is None else "".join([letter for letter in heard if letter in ears])


def gathered(pairs):
    """For each name of some pairs of a name and a target the tuple of its targets, both ascending."""
    found = {}
    for name, target in pairs:
        targets = found.setdefault(name, {})
        targets[target] = True
    return tuple([(name, tuple(sorted(found[name]))) for name in sorted(found)])


class House:
    """A book and ears; it keeps the answers that it worked out."""

    def __init__(self, book, ears=None):
        self.book = book
        self.ears = ears
        self._ways = {}
        self._answers = {}

    def ways_from(self, where, face):
        """The pairs of what the ears hear and of the where behind it, for a where and a face."""
        if (where, face) not in self._ways:
            pairs = outcomes(self.book, where, face)
            self._ways[where, face] = [(letters_among(heard, self.ears), target) for heard, target in pairs]
        return self._ways[where, face]

    def answers_of(self, lot, face):
        """The pairs of what the ears hear and of the lot behind it, ascending."""
        if (lot, face) not in self._answers:
            self._answers[lot, face] = gathered([pair for where in lot for pair in self.ways_from(where, face)])
        return self._answers[lot, face]

    def lot_behind(self, lot, face, heard):
        """The lot behind a lot at a face if just this is heard, the empty one if it cannot be."""
        for other, target in self.answers_of(lot, face):
            if other == heard:
                return target
        return ()

"""Houses: a book with what can be heard in it, each where and lot worked out once."""

from housewardens.books import outcomes


def letters_among(heard, ears):
    """The letters of a heard string that are among some ears; None stands for all letters."""
    return heard if ears is None else "".join([letter for letter in heard if letter in ears])


class House:
    """A book and ears; it keeps the answers that it worked out."""

    def __init__(self, book, ears=None):
        self.book = book
        self.ears = ears
        self._ways = {}
        self._answers = {}

    def ways_from(self, where, face):
        """The pairs of what the ears hear and of the where behind it, for a where and a face."""
        if (where, face) not in self._ways:
            pairs = outcomes(self.book, where, face)
            self._ways[where, face] = [(letters_among(heard, self.ears), target) for heard, target in pairs]
        return self._ways[where, face]

    def answers_of(self, lot, face):
        """The pairs of what the ears hear and of the lot behind it, ascending."""
        if (lot, face) not in self._answers:
            found = {}
            for where in lot:
                for heard, target in self.ways_from(where, face):
                    wheres = found.setdefault(heard, {})
                    wheres[target] = True
            self._answers[lot, face] = tuple([(heard, tuple(sorted(found[heard]))) for heard in sorted(found)])
        return self._answers[lot, face]

    def lot_behind(self, lot, face, heard):
        """The lot behind a lot at a face if just this is heard, the empty one if it cannot be."""
        for other, target in self.answers_of(lot, face):
            if other == heard:
                return target
        return ()

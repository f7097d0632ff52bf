"""Onlookers, who stand outside: what they hear, and which faces they tell apart."""

from housewardens.errors import BadOnlooker, OtherFaces
from housewardens.kinds import are_letters, is_number_from


def numbered_anew(row):
    """For each item of a row its number, in the order in which unlike ones first come."""
    # Nothing is changed here, as an operator calls this: an earlier place is put over a later one.
    firsts = {item: at for at, item in list(enumerate(row))[::-1]}
    numbers = {at: number for number, at in enumerate(sorted(firsts.values()))}
    return tuple([numbers[firsts[item]] for item in row])


def are_classes(thing):
    """Whether any value is a tuple of one or more integers from 0 on."""
    return isinstance(thing, tuple) and len(thing) > 0 and all([is_number_from(part, 0) for part in thing])


class Onlooker:
    """Who hears some letters, and tells apart faces of unlike classes."""

    def __init__(self, letters, classes):
        if not are_letters(letters):
            raise BadOnlooker("letters")
        if not are_classes(classes):
            raise BadOnlooker("classes")
        self.letters = letters
        self.classes = numbered_anew(classes)

    def __eq__(self, other):
        return isinstance(other, Onlooker) and self.letters == other.letters and self.classes == other.classes

    def __or__(self, other):
        check_classes(self, other)
        letters = "".join(sorted(set(self.letters + other.letters)))
        return Onlooker(letters, numbered_anew(list(zip(self.classes, other.classes))))

    def sees_all_of(self, other):
        """Whether it hears all that another one does, and tells apart all faces that the other one does."""
        check_classes(self, other)
        if not all([letter in self.letters for letter in other.letters]):
            return False
        # No class of its own has faces that the other one tells apart: so pairs of classes are as many as its own.
        return len(set(list(zip(self.classes, other.classes)))) == len(set(self.classes))


def check_classes(one, other):
    """Raises OtherFaces() if two onlookers have not as many classes."""
    if len(one.classes) != len(other.classes):
        raise OtherFaces()

"""Cuts: what ears hear of heard strings."""

from housewardens.houses import House, letters_among


def cut_heard(heard, ears):
    """The letters of a heard string that are among the ears; None stands for all letters."""
    return letters_among(heard, ears)


def answers_by_ears(book, lot, face, ears):
    """All pairs of a cut that can be heard in a lot at a face and of the lot behind it, ascending."""
    return House(book, ears).answers_of(lot, face)

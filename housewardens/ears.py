"""Least ears and least choices of faces, and their papers."""

from housewardens.books import is_heard, parts_of
from housewardens.keepers import can_keep, judge_keeping
from housewardens.keeppapers import keeping_holds
from housewardens.kinds import are_ascending, do_ascend, is_tuple_of


def letters_of(book):
    """The letters that a book has in its moves, ascending."""
    return sorted({letter for move in book.moves for letter in move[2]})


def all_ears(book):
    """All ascending strings of letters that the book has in its moves, ascending."""
    return sorted(["".join(row) for row in [()] + parts_of(letters_of(book))])


def all_choices(faces):
    """All choices of faces, ascending."""
    return sorted(parts_of(list(range(len(faces)))))


def is_within(part, whole):
    """Whether all letters of a string, or numbers of a tuple, are among those of another one."""
    return all([item in whole for item in part])


def least_of(rows):
    """The rows of some that have no other one of them within, as a tuple."""
    return tuple([row for row in rows if not any([other != row and is_within(other, row) for other in rows])])


def greatest_of(rows):
    """The rows of some that are within no other one of them, as a tuple."""
    return tuple([row for row in rows if not any([other != row and is_within(row, other) for other in rows])])


def least_ears(book, faces, harms, *, choice=None, most=60):
    """All least ears for a choice of faces, ascending; raises TooMany(most)."""
    rows = all_ears(book)
    return least_of([ears for ears in rows if can_keep(book, faces, harms, ears=ears, choice=choice, most=most)])


def least_choices(book, faces, harms, *, ears=None, most=60):
    """All least choices of faces by ears, ascending; raises TooMany(most)."""
    rows = all_choices(faces)
    return least_of([choice for choice in rows if can_keep(book, faces, harms, ears=ears, choice=choice, most=most)])


def paper_of(word, papers):
    """The paper of the least rows with which some device keeps, and of the greatest ones with which none does."""
    kept = least_of([row for row in papers if papers[row][0] == "kept"])
    refused = greatest_of([row for row in papers if papers[row][0] == "refused"])
    return word, tuple([(row, papers[row]) for row in kept]), tuple([(row, papers[row]) for row in refused])


def ears_paper(book, faces, harms, *, choice=None, most=60):
    """A paper that tells with which ears some device keeps; raises TooMany(most)."""
    papers = {}
    for ears in all_ears(book):
        papers[ears] = judge_keeping(book, faces, harms, ears=ears, choice=choice, most=most)
    return paper_of("ears", papers)


def choices_paper(book, faces, harms, *, ears=None, most=60):
    """A paper that tells with which choices of faces some device keeps; raises TooMany(most)."""
    papers = {}
    for choice in all_choices(faces):
        papers[choice] = judge_keeping(book, faces, harms, ears=ears, choice=choice, most=most)
    return paper_of("choices", papers)


def ears_paper_holds(book, faces, harms, thing, *, choice=None):
    """Whether any value is a paper that tells with which ears some device keeps."""

    def holds(ears, paper):
        return keeping_holds(book, faces, harms, paper, ears=ears, choice=choice)

    return does_paper_hold("ears", is_heard, holds, [([], letters_of(book))], thing)


def choices_paper_holds(book, faces, harms, thing, *, ears=None):
    """Whether any value is a paper that tells with which choices of faces some device keeps."""

    def is_choice(row):
        return is_choice_of(faces, row)

    def holds(choice, paper):
        return keeping_holds(book, faces, harms, paper, ears=ears, choice=choice)

    # By the first face of a choice, as none is empty.
    numbers = list(range(len(faces)))
    return does_paper_hold("choices", is_choice, holds, [([at], numbers[at + 1 :]) for at in numbers], thing)


def is_choice_of(faces, thing):
    """Whether any value is a choice of some faces."""
    return are_ascending(thing, 0, len(faces) - 1) and len(thing) > 0


def does_paper_hold(word, is_row, holds, starts, thing):
    """Whether any value is this word with kept and refused pairs of papers that hold, which tell of all rows."""
    if not is_tuple_of(thing, 3) or thing[0] != word:
        return False
    _, kept, refused = thing
    if not are_pairs(kept, is_row) or not are_pairs(refused, is_row) or not are_all_told(starts, kept, refused):
        return False
    return do_papers_hold(kept, "kept", holds) and do_papers_hold(refused, "refused", holds)


def are_pairs(thing, is_row):
    """Whether any value is a tuple of pairs of a row of some kind and any value, ascending by the rows."""
    if not isinstance(thing, tuple) or not all([is_tuple_of(pair, 2) and is_row(pair[0]) for pair in thing]):
        return False
    return do_ascend([row for row, _ in thing])


def do_papers_hold(pairs, word, holds):
    """Whether all papers of some pairs have a word ahead, and hold."""
    return all([isinstance(paper, tuple) and paper[:1] == (word,) and holds(row, paper) for row, paper in pairs])


def are_all_told(starts, kept, refused):
    """Whether each row of some starts has one that is kept within, or is within one that is refused.

    A start is some items and some more: all rows that have the former and any of the latter.
    """
    left = list(starts)
    while left:
        some, more = left.pop()
        if any([is_within(row, some) for row, _ in kept]) or any([is_within(some + more, row) for row, _ in refused]):
            continue
        if not more:
            return False
        left += [(some, more[1:]), (some + more[:1], more[1:])]
    return True

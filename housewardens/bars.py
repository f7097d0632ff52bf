"""Bars: which habits have to be barred, so that some device keeps the harms."""

from housewardens.ears import are_pairs, do_papers_hold
from housewardens.keepers import can_keep, judge_keeping
from housewardens.keeppapers import keeping_holds
from housewardens.kinds import are_ascending, is_number_from, is_tuple_of


def barred_book(book, bar):
    """The book without the moves of a bar."""
    return book.without_moves(bar)


def is_bar(book, thing):
    """Whether any value is a bar of the book."""
    return are_ascending(thing, 0, len(book.moves) - 1)


def bars_with(book, number):
    """All bars with so many moves, ascending."""
    rows = [()]
    for _ in range(number):
        rows = [(*row, move) for row in rows for move in range(len(book.moves)) if not row or move > row[-1]]
    return rows


def numbers_up_to(book, greatest):
    """The numbers of moves, at most the greatest, that bars of the book can have."""
    return list(range(min(greatest, len(book.moves)) + 1))


def fewest_bars(book, faces, harms, *, greatest=3, most=60):
    """All bars that are enough with as few moves as can be, ascending; raises TooMany(most)."""
    for number in numbers_up_to(book, greatest):
        rows = bars_with(book, number)
        found = [bar for bar in rows if can_keep(barred_book(book, bar), faces, harms, most=most)]
        if found:
            return tuple(found)
    return ()


def bars_paper(book, faces, harms, *, greatest=3, most=60):
    """A paper of the fewest bars, or that none of at most the greatest number is enough; raises TooMany(most)."""
    refused = []
    for number in numbers_up_to(book, greatest):
        rows = bars_with(book, number)
        pairs = [(bar, judge_keeping(barred_book(book, bar), faces, harms, most=most)) for bar in rows]
        kept = [(bar, paper) for bar, paper in pairs if paper[0] == "kept"]
        refused += [(bar, paper) for bar, paper in pairs if paper[0] == "refused"]
        if kept:
            return "barred", number, tuple(kept), in_order(refused)
    return "no bar", greatest, in_order(refused)


def in_order(pairs):
    """Pairs of a bar and a paper, ascending by the bars."""
    papers = {bar: paper for bar, paper in pairs}
    return tuple([(bar, papers[bar]) for bar in sorted(papers)])


def bars_paper_holds(book, faces, harms, thing):
    """Whether any value is a paper of the fewest bars, or that none of at most so many moves is enough."""
    if is_tuple_of(thing, 4) and thing[0] == "barred":
        number, kept, refused = thing[1:]
    elif is_tuple_of(thing, 3) and thing[0] == "no bar":
        number, kept, refused = thing[1], (), thing[2]
    else:
        return False
    if (thing[0] == "barred" and kept == ()) or not are_all_bars(book, number, kept, refused):
        return False

    def holds(bar, paper):
        return keeping_holds(barred_book(book, bar), faces, harms, paper)

    return do_papers_hold(kept, "kept", holds) and do_papers_hold(refused, "refused", holds)


def are_all_bars(book, number, kept, refused):
    """Whether any values are a number, ascending pairs of bars of so many moves, and of all others up to these."""

    def is_row(bar):
        return is_bar(book, bar)

    if not is_number_from(number, 0) or not are_pairs(kept, is_row) or not are_pairs(refused, is_row):
        return False
    bars = [bar for bar, _ in kept + refused]
    if not all([len(bar) == number for bar, _ in kept]) or not all([len(bar) <= number for bar in bars]):
        return False
    # So many are all of them, as no bar has papers of both kinds. They are counted: they may be far too many to list.
    return len(bars) == many_bars(len(book.moves), number)


def many_bars(moves, number):
    """How many bars of at most a number of moves there are in a book with so many moves."""
    found = 0
    many = 1
    for parts in range(min(number, moves) + 1):
        found += many
        many = many * (moves - parts) // (parts + 1)
    return found

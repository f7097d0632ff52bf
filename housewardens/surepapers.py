"""Papers of rounds and of gaps."""

from housewardens.kinds import do_ascend, is_between, is_number_from, is_tuple_of
from housewardens.plays import Play
from housewardens.rounds import Rounds, are_among, is_sure, rounds_lost
from housewardens.searches import all_met


def judge_surely(book, faces, *, harms=(), most=60):
    """A paper that it can be made sure, in as few rounds as can be, or that it never can; raises TooMany(most)."""
    rounds = Rounds(book, faces, harms, most)
    return sure_paper(rounds) if rounds.play.first in rounds.number else rounds.never()


def sure_paper(rounds):
    """The paper of all lots that become sure."""
    lots = sorted([lot for lot in rounds.unsure if lot in rounds.number])
    return "sure", tuple([(lot, rounds.face_toward(lot), rounds.number[lot]) for lot in lots])


def judge_rounds(book, faces, rounds, *, harms=(), most=60):
    """A paper that it can be made sure in so many rounds, or that it cannot; raises TooMany(most)."""
    found = Rounds(book, faces, harms, most)
    if found.number.get(found.play.first, rounds + 1) <= rounds:
        return sure_paper(found)
    # A lot is late for less rounds than its own; none has to be late for more than is asked.
    lots = sorted(found.unsure)
    return "late", tuple([(lot, min(found.number.get(lot, rounds + 1) - 1, rounds)) for lot in lots])


def surely_holds(book, faces, harms, thing):
    """Whether any value is a paper that it can be made sure in any number of rounds, or that it never can."""
    play = Play(book, faces, harms)
    if not is_tuple_of(thing, 2):
        return False
    if thing[0] == "sure":
        number = numbers_of_sure_rows(play, thing[1])
        return number is not None and (is_sure(book, play.first) or play.first in number)
    return thing[0] == "never" and are_never_sure(play, thing[1])


def rounds_hold(book, faces, rounds, harms, thing):
    """Whether any value is a paper that it can be made sure in so many rounds, or that it cannot."""
    play = Play(book, faces, harms)
    if not is_tuple_of(thing, 2):
        return False
    if thing[0] == "sure":
        number = numbers_of_sure_rows(play, thing[1])
        return number is not None and (is_sure(book, play.first) or number.get(play.first, rounds + 1) <= rounds)
    return thing[0] == "late" and are_late_rows(play, rounds, thing[1])


def is_unsure_lot(play, thing):
    """Whether any value is a lot of the book that is neither empty nor sure."""
    return play.is_some_lot(thing) and not is_sure(play.book, thing)


def are_rows(thing, is_row):
    """Whether any value is an ascending tuple of such rows."""
    return isinstance(thing, tuple) and all([is_row(row) for row in thing]) and do_ascend(thing)


def numbers_of_sure_rows(play, thing):
    """The numbers by the lots of what is the rows of a paper that it can be made sure; None for any other value."""
    if not are_rows(thing, lambda row: is_sure_row(play, row)):
        return None
    number = {lot: rounds for lot, _, rounds in thing}
    if len(number) < len(thing):
        return None
    for lot, face, rounds in thing:
        for target in play.targets(lot, face):
            if not is_sure(play.book, target) and number.get(target, rounds) >= rounds:
                return None
    return number


def is_sure_row(play, thing):
    """Whether any value is a lot that is neither empty nor sure, a face safe in it, and a number from 1 on."""
    if not is_tuple_of(thing, 3) or not is_unsure_lot(play, thing[0]):
        return False
    return play.is_safe(thing[0], thing[1]) and is_number_from(thing[2], 1)


def are_never_sure(play, thing):
    """Whether any value is an ascending tuple of lots, with the first one, that need never become sure."""
    if not are_rows(thing, lambda lot: is_unsure_lot(play, lot)):
        return False
    known = {lot: True for lot in thing}
    if play.first not in known:
        return False
    return all([any([lot in known for lot in row]) for some in thing for row in play.safe_targets(some)])


def are_late_rows(play, rounds, thing):
    """Whether any value is rows that show that it cannot be made sure in so many rounds."""
    if not are_rows(thing, lambda row: is_late_row(play, row)):
        return False
    number = {lot: rounds_at_least for lot, rounds_at_least in thing}
    if len(number) < len(thing) or number.get(play.first, -1) < rounds:
        return False
    return all([is_late(play, number, lot) for lot, _ in thing])


def is_late_row(play, thing):
    """Whether any value is a lot that is neither empty nor sure, and a number from 0 on."""
    return is_tuple_of(thing, 2) and is_unsure_lot(play, thing[0]) and is_number_from(thing[1], 0)


def is_late(play, number, lot):
    """Whether a lot is as late as told, by the numbers of lots."""
    if number[lot] == 0:
        return True
    return all([any([number.get(target, -1) >= number[lot] - 1 for target in row]) for row in play.safe_targets(lot)])


def span_behind(play, span, target):
    """The span of a lot behind one with this span."""
    return 0 if is_sure(play.book, target) else span + 1


def first_span(play):
    """The first lot with its span."""
    return play.first, span_behind(play, 0, play.first)


def nodes_behind(play, node, face):
    """The lots with their spans to which the answers of a face lead."""
    lot, span = node
    return [(target, span_behind(play, span, target)) for target in play.targets(lot, face)]


def judge_gap(book, faces, gap, *, harms=(), most=60):
    """A paper that some device stays sure with such gaps, or that none does; raises TooMany(most)."""
    rounds = Rounds(book, faces, harms, most)
    if rounds.does_stay(gap):
        return stays_paper(rounds, gap)
    return breaks_paper(rounds.play, gap)


def stays_paper(rounds, gap):
    """The paper of the lots and spans that come with a device that stays sure."""
    play = rounds.play
    shown = rounds.faces_to_stay(gap)
    nodes = all_met([first_span(play)], lambda node: nodes_behind(play, node, shown[node[0]]))
    return "stays", tuple([(lot, span, shown[lot]) for lot, span in sorted(nodes)])


def breaks_paper(play, gap):
    """The paper of the lots and spans from which each device comes to greater gaps."""
    start = first_span(play)
    rows = {}

    def behind(node):
        targets = [nodes_behind(play, node, face) for face in play.safe(node[0])]
        # A face is lost at once by an answer with too great a span: so it is no row.
        rows[node] = [row for row in targets if all([span <= gap for _, span in row])]
        return [further for row in targets for further in row if further[1] <= gap]

    nodes = all_met([start] if start[1] <= gap else [], behind)
    number = rounds_lost(nodes, lambda node: rows[node])
    return "breaks", tuple(sorted([(*node, number[node]) for node in number]))


def gap_holds(book, faces, gap, harms, thing):
    """Whether any value is a paper that some device stays sure with such gaps, or that none does."""
    play = Play(book, faces, harms)
    if not is_tuple_of(thing, 2):
        return False
    if thing[0] == "stays":
        return are_staying_rows(play, gap, thing[1])
    return thing[0] == "breaks" and are_breaking_rows(play, gap, thing[1])


def is_spanned(play, gap, thing):
    """Whether any value is three parts, ahead a lot that is not empty, and a span for it of at most the gap."""
    if not is_tuple_of(thing, 3) or not play.is_some_lot(thing[0]) or not is_between(thing[1], 0, gap):
        return False
    return is_sure(play.book, thing[0]) == (thing[1] == 0)


def are_staying_rows(play, gap, thing):
    """Whether any value is rows that show that some device stays sure with such gaps."""
    if not are_rows(thing, lambda row: is_spanned(play, gap, row) and play.is_safe(row[0], row[2])):
        return False
    known = {(lot, span): True for lot, span, _ in thing}
    if len(known) < len(thing) or first_span(play) not in known:
        return False
    return all([are_among(nodes_behind(play, (lot, span), face), known) for lot, span, face in thing])


def are_breaking_rows(play, gap, thing):
    """Whether any value is rows that show that no device stays sure with such gaps."""
    if not are_rows(thing, lambda row: is_spanned(play, gap, row) and is_number_from(row[2], 0)):
        return False
    number = {(lot, span): rounds for lot, span, rounds in thing}
    start = first_span(play)
    if len(number) < len(thing) or (start not in number and start[1] <= gap):
        return False
    return all([does_break(play, number, node, gap) for node in number])


def does_break(play, number, node, gap):
    """Whether each safe face of a lot with its span has an answer with too great a span or with a lesser number."""
    for face in play.safe(node[0]):
        rows = nodes_behind(play, node, face)
        if not any([row[1] > gap or number.get(row, number[node]) < number[node] for row in rows]):
            return False
    return True

"""Whether so many people can be in a picture, and how many are enough for all pictures."""

from housewardens.crowds import Throng, first_pairs, picture_of
from housewardens.kinds import are_between, do_ascend, is_between, is_tuple_of
from housewardens.walks import can_make
from housewardens.wards import all_pictures, along, is_run


def run_for(ward, many, picture):
    """The first run that leads to a picture and that so many people make, or None."""
    throng = Throng(ward)
    left = ticks_left(throng, throng.met(many), picture)
    starts = [pair for pair in first_pairs(ward, many) if pair in left]
    if not starts:
        return None
    return run_down(throng, starts, left, min([left[pair] for pair in starts]))


def run_down(throng, pairs, left, ticks):
    """The first run from some pairs of one picture, so many ticks long, that comes nearer to the end each tick."""
    run = []
    for number in range(ticks, 0, -1):
        rows = [row for pair in pairs for row in throng.leads(pair) if left.get(row[1]) == number - 1]
        choice = min([choice for choice, _ in rows])
        run.append(choice)
        pairs = sorted({further for other, further in rows if other == choice})
    return tuple(run)


def ticks_left(throng, met, picture):
    """For each pair from which some way leads to a picture the least number of ticks."""
    ahead = {pair: [] for pair in met}
    for pair in met:
        for further in throng.behind(pair):
            ahead[further].append(pair)
    fresh = [pair for pair in met if picture_of(pair) == picture]
    found = {pair: 0 for pair in fresh}
    ticks = 0
    while fresh:
        ticks += 1
        fresh = sorted({pair for further in fresh for pair in ahead[further] if pair not in found})
        for pair in fresh:
            found[pair] = ticks
    return found


def judge_many(ward, many, picture, *, most=1500):
    """A paper that just so many people can be in a picture, or that they cannot; raises TooMany(most)."""
    pairs = Throng(ward).met(many, most)
    if picture in pictures_among(pairs):
        return "run", run_for(ward, many, picture)
    return "closed", pairs


def pictures_among(pairs):
    """The pictures of some pairs, ascending."""
    return sorted({picture_of(pair) for pair in pairs})


def many_holds(ward, many, picture, thing):
    """Whether any value is a paper that just so many people can be in a picture, or that they cannot."""
    if not is_tuple_of(thing, 2):
        return False
    if thing[0] == "run":
        return is_run(ward, thing[1]) and along(ward, thing[1])[-1] == picture and can_make(ward, thing[1], many)
    return thing[0] == "closed" and are_closed_pairs(ward, many, picture, thing[1])


def is_crowd(book, many, thing):
    """Whether any value is a crowd of so many people, from 1 on."""
    return is_tuple_of(thing, len(book)) and are_between(thing, 0, many) and sum(thing) == many and many > 0


def is_pair(ward, many, thing):
    """Whether any value is a pair of a crowd of so many people and a state."""
    if not is_tuple_of(thing, 2) or not is_crowd(ward.book, many, thing[0]):
        return False
    return is_between(thing[1], 0, len(ward.device) - 1)


def are_closed_pairs(ward, many, picture, thing):
    """Whether any value is an ascending tuple of pairs that is closed, has all first ones, and not the picture."""
    if not isinstance(thing, tuple) or not all([is_pair(ward, many, pair) for pair in thing]):
        return False
    if not do_ascend(thing) or picture in pictures_among(thing):
        return False
    throng = Throng(ward)
    known = set(thing)
    for pair in first_pairs(ward, many):
        if pair not in known:
            return False
    for pair in thing:
        for further in throng.behind(pair):
            if further not in known:
                return False
    return True


def fewest_for(ward, picture):
    """The least number of people who can be in a picture, or None if no number can."""
    if picture not in all_pictures(ward):
        return None
    throng = Throng(ward)
    many = 1
    while picture not in pictures_among(throng.met(many)):
        many += 1
    return many


def enough(ward):
    """The least number of people who can be in each picture in which any number can be."""
    pictures = all_pictures(ward)
    throng = Throng(ward)
    many = 1
    while pictures_among(throng.met(many)) != pictures:
        many += 1
    return many

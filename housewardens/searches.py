"""Searches through whatever leads on: all that is met, and the first ways there."""

from housewardens.errors import TooMany


def all_met(starts, behind, most=None):
    """All that is met from some starts on, in the order met; raises TooMany(most) if that is more than most."""
    found = []
    seen = set()
    fresh = list(starts)
    while fresh:
        further = []
        for thing in fresh:
            if thing not in seen:
                seen.add(thing)
                found.append(thing)
                check_many(len(found), most)
                further += behind(thing)
        fresh = further
    return found


def check_many(many, most):
    """Raises TooMany(most) if there are more than most; None stands for no limit."""
    if most is not None and many > most:
        raise TooMany(most)


def first_ways(start, leads, most=None):
    """The first way to each thing that is met, in the order of ways; raises TooMany(most) likewise.

    What leads on from a thing is pairs of a name and a further thing, ascending by the names; a way is a tuple of
    names. So ways are met in their order, and the first one that leads to a thing is kept.
    """
    found = {start: ()}
    check_many(1, most)
    fresh = [start]
    while fresh:
        further = []
        for thing in fresh:
            for name, target in leads(thing):
                if target not in found:
                    found[target] = (*found[thing], name)
                    further.append(target)
                    check_many(len(found), most)
        fresh = further
    return found

"""Goings: the steps of a run, and the walks by which people make it."""

from housewardens.books import staying
from housewardens.kinds import STAYS, is_integer, is_tuple_of
from housewardens.wards import along, face_in


def steps_of(ward, run):
    """All steps of a run, ascending."""
    if not run:
        return tuple([(0, standing, STAYS) for standing in ward.book.first])
    pictures = along(ward, run)
    steps = []
    for tick, choice in enumerate(run):
        still = staying(ward.book, pictures[tick][0], face_in(ward, pictures[tick]))
        steps += [(tick, standing, STAYS) for standing in still]
        steps += [(tick, ward.book.moves[move][0], move) for move in choice]
    return tuple(sorted(steps))


def led_to(ward, step):
    """The standing to which a step leads."""
    _, standing, move = step
    return standing if move == STAYS else ward.book.moves[move][1]


def steps_along(ward, run, steps, thing):
    """The steps of a walk, or None for any value that is no walk; the keys of steps are all steps of the run."""
    if not is_tuple_of(thing, 2) or not is_tuple_of(thing[1], len(run)):
        return None
    standing, moves = thing
    if not is_integer(standing) or standing not in ward.book.first:
        return None
    if not run:
        return [(0, standing, STAYS)]
    found = []
    for tick, move in enumerate(moves):
        step = (tick, standing, move)
        if not is_integer(move) or step not in steps:
            return None
        found.append(step)
        standing = led_to(ward, step)
    return found


def is_walk(ward, run, thing):
    """Whether any value is a walk of a run."""
    steps = {step: True for step in steps_of(ward, run)}
    return steps_along(ward, run, steps, thing) is not None


def do_make(ward, run, thing):
    """Whether any value is a tuple of walks with which people make a run."""
    if not isinstance(thing, tuple):
        return False
    steps = {step: True for step in steps_of(ward, run)}
    made = set()
    for walk in thing:
        found = steps_along(ward, run, steps, walk)
        if found is None:
            return False
        for step in found:
            made.add(step)
    return len(made) == len(steps)


def are_apart(ward, run, step, further):
    """Whether no walk of a run has both of two of its steps; a step is not apart from itself."""
    early, late = sorted([step, further])
    if early[0] == late[0]:
        return early != late
    steps = steps_of(ward, run)
    reached = [led_to(ward, early)]
    for tick in range(early[0] + 1, late[0]):
        reached = sorted({led_to(ward, row) for row in steps if row[0] == tick and row[1] in reached})
    return late[1] not in reached

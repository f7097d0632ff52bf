"""Devices, which hear and show faces, and the faces that they show."""

from housewardens.errors import BadDevice, BadText
from housewardens.kinds import GREATEST_FACE, are_between, are_letters, do_ascend, is_between, is_tuple_of
from housewardens.texts import (
    check_end,
    end_of_kind,
    heard_told,
    lines_of,
    number_told,
    numbers_told,
    parts_of_many,
    word_of_heard,
)


def is_step(thing, many):
    """Whether any value is a step of a device with so many states."""
    if not is_tuple_of(thing, 3):
        return False
    state, heard, target = thing
    return is_between(state, 0, many - 1) and are_letters(heard) and is_between(target, 0, many - 1)


def are_steps(thing, many):
    """Whether any value is what a device with so many states has as its steps."""
    if not isinstance(thing, tuple) or not all([is_step(step, many) for step in thing]):
        return False
    # Without the states to which they lead: so no two steps are for one state and heard string.
    return do_ascend([step[:2] for step in thing])


class Device:
    """What hears, goes from state to state, and shows a face in each."""

    def __init__(self, shown, steps, others):
        if not are_between(shown, 0, GREATEST_FACE) or not shown:
            raise BadDevice("shown")
        if not are_steps(steps, len(shown)):
            raise BadDevice("steps")
        if not are_between(others, 0, len(shown) - 1) or len(others) != len(shown):
            raise BadDevice("others")
        self.shown = shown
        self.steps = steps
        self.others = others
        self._targets = {(state, heard): target for state, heard, target in steps}

    def __len__(self):
        return len(self.shown)

    def __eq__(self, other):
        return (
            isinstance(other, Device)
            and self.shown == other.shown
            and self.steps == other.steps
            and self.others == other.others
        )

    def __str__(self):
        return "\n".join(device_lines(self))

    @classmethod
    def read(cls, text):
        """The device that a text tells; raises BadText(line) for any value that is no text of a device."""
        lines = lines_of(text)
        shown, steps, others, end = device_told(lines, 0)
        check_end(lines, end)
        return cls(shown, steps, others)

    def led(self, state, heard):
        """The next state behind a state in which just this is heard."""
        return self._targets.get((state, heard), self.others[state])


def device_lines(device):
    """The lines of the text of a device."""
    states = [f"state {face} {other}" for face, other in zip(device.shown, device.others)]
    steps = [f"step {state} {word_of_heard(heard)} {target}" for state, heard, target in device.steps]
    return states + steps


def device_told(lines, at):
    """What lines tell from an index on: faces shown, steps, other states, and the index behind them."""
    middle = end_of_kind(lines, at, "state")
    if middle == at:
        raise BadText(at + 1)
    states = [state_told(lines, place, middle - at) for place in range(at, middle)]
    end = end_of_kind(lines, middle, "step")
    steps = []
    for place in range(middle, end):
        step = step_told(lines, place, middle - at)
        if steps and steps[-1][:2] >= step[:2]:
            raise BadText(place + 1)
        steps.append(step)
    shown = [face for face, other in states]
    others = [other for face, other in states]
    return tuple(shown), tuple(steps), tuple(others), end


def state_told(lines, at, many):
    """The face and the other state that a line tells, for a device with so many states."""
    face, other = numbers_told(parts_of_many(lines, at, "state", 2))
    if not (is_between(face, 0, GREATEST_FACE) and is_between(other, 0, many - 1)):
        raise BadText(at + 1)
    return face, other


def step_told(lines, at, many):
    """The step that a line tells, for a device with so many states."""
    state, heard, target = parts_of_many(lines, at, "step", 3)
    step = (number_told(state), heard_told(heard), number_told(target))
    if not is_step(step, many):
        raise BadText(at + 1)
    return step


def is_face(thing):
    """Whether any value is a face: a pair of bools."""
    return is_tuple_of(thing, 2) and all([isinstance(part, bool) for part in thing])


def are_faces(thing):
    """Whether any value is faces: a tuple of one or more of them."""
    return isinstance(thing, tuple) and len(thing) > 0 and all([is_face(face) for face in thing])


def silent_ticks(faces, device, state):
    """Behind how many ticks of silence an armed face is first shown, or None if never."""
    # Behind as many ticks as there are states some state comes again, and nothing new from then on.
    for ticks in range(len(device)):
        if faces[device.shown[state]][0]:
            return ticks
        state = device.led(state, "")
    return None

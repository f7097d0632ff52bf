"""Wards: a book, faces and a device together; their pictures, runs and harms."""

from housewardens.books import (
    Book,
    book_lines,
    book_told,
    choices,
    has_somebody,
    heard_of,
    is_choice,
    is_where,
    outcomes,
    ways_on,
    where_behind,
)
from housewardens.devices import Device, are_faces, device_lines, device_told, silent_ticks
from housewardens.errors import BadChoice, BadText, BadWard
from housewardens.kinds import do_ascend, is_between, is_tuple_of
from housewardens.searches import all_met
from housewardens.texts import check_end, end_of_kind, lines_of, parts_of_many

YES = "yes"
NO = "no"


class Ward:
    """A book, faces, and a device that shows some of these faces."""

    def __init__(self, book, faces, device):
        if not are_faces(faces):
            raise BadWard("faces")
        if max(device.shown) >= len(faces):
            raise BadWard("device")
        self.book = book
        self.faces = faces
        self.device = device

    def __eq__(self, other):
        return (
            isinstance(other, Ward)
            and self.book == other.book
            and self.faces == other.faces
            and self.device == other.device
        )

    def __str__(self):
        return "\n".join(ward_lines(self))

    @classmethod
    def read(cls, text):
        """The ward that a text tells; raises BadText(line) for what is no such text, then BadWard as above."""
        lines = lines_of(text)
        rooms, moves, first, end = book_told(lines, 0)
        faces, end = faces_told(lines, end)
        shown, steps, others, end = device_told(lines, end)
        check_end(lines, end)
        return cls(Book(rooms, moves, first), faces, Device(shown, steps, others))


def word_of_bool(thing):
    """The word for a bool."""
    return YES if thing else NO


def ward_lines(ward):
    """The lines of the text of a ward."""
    faces = [f"face {word_of_bool(armed)} {word_of_bool(rings)}" for armed, rings in ward.faces]
    return book_lines(ward.book) + faces + device_lines(ward.device)


def faces_told(lines, at):
    """What lines tell from an index on: faces, and the index behind them."""
    end = end_of_kind(lines, at, "face")
    if end == at:
        raise BadText(at + 1)
    return tuple([face_told(lines, place) for place in range(at, end)]), end


def face_told(lines, at):
    """The face that a line tells."""
    words = parts_of_many(lines, at, "face", 2)
    if not all([word in (YES, NO) for word in words]):
        raise BadText(at + 1)
    return tuple([word == YES for word in words])


def first_picture(ward):
    """The picture with the first standings and the state 0."""
    return ward.book.first, 0


def is_picture(ward, thing):
    """Whether any value is a picture of the ward."""
    if not is_tuple_of(thing, 2):
        return False
    return is_where(ward.book, thing[0]) and is_between(thing[1], 0, len(ward.device) - 1)


def face_in(ward, picture):
    """The number of the face that is shown in a picture."""
    return ward.device.shown[picture[1]]


def choices_in(ward, picture):
    """All choices in a picture, ascending."""
    return choices(ward.book, picture[0], face_in(ward, picture))


def tick(ward, picture, choice):
    """What is heard of a choice in a picture, and the next picture; raises BadChoice(choice)."""
    where, state = picture
    face = face_in(ward, picture)
    if not is_choice(ward.book, where, face, choice):
        raise BadChoice(choice)
    heard = heard_of(ward.book, choice)
    return heard, (where_behind(ward.book, where, face, choice), ward.device.led(state, heard))


def is_run(ward, thing):
    """Whether any value is a run of the ward."""
    if not isinstance(thing, tuple):
        return False
    try:
        along(ward, thing)
    except BadChoice:
        return False
    return True


def along(ward, run):
    """All pictures of a run, the first one too."""
    pictures = [first_picture(ward)]
    for choice in run:
        _, picture = tick(ward, pictures[-1], choice)
        pictures.append(picture)
    return tuple(pictures)


def log_of(ward, run):
    """What is heard in a run, tick by tick."""
    return tuple([heard_of(ward.book, choice) for choice in run])


def has_harm(ward, picture, harm):
    """Whether a picture has a harm, one of the three words."""
    where, state = picture
    armed, rings = ward.faces[ward.device.shown[state]]
    if harm == "bell":
        return rings
    if harm == "shut":
        return armed and has_somebody(ward.book, where)
    return not has_somebody(ward.book, where) and silent_ticks(ward.faces, ward.device, state) is None


def has_some_harm(ward, picture, harms):
    """Whether a picture has one of some harms."""
    return any([has_harm(ward, picture, harm) for harm in harms])


def pictures_behind(ward, picture):
    """The pictures to which one tick leads, ascending."""
    where, state = picture
    pairs = outcomes(ward.book, where, face_in(ward, picture))
    return sorted({(target, ward.device.led(state, heard)) for heard, target in pairs})


def pictures_of(ward, *, most=60):
    """All pictures to which runs lead, ascending; raises TooMany(most) if there are more than most."""
    return tuple(all_pictures(ward, most))


def all_pictures(ward, most=None):
    """All pictures to which runs lead, ascending, as a list; raises TooMany(most) if there are more than most."""
    return sorted(all_met([first_picture(ward)], lambda picture: pictures_behind(ward, picture), most))


def first_run_among(ward, harms):
    """The first run whose last picture has one of some harms; there has to be one."""
    # Runs are met in their order, as each is lengthened by ascending choices: the first one to a picture is kept.
    ends = [((), first_picture(ward))]
    seen = set()
    seen.add(first_picture(ward))
    at = 0
    while not has_some_harm(ward, ends[at][1], harms):
        run, picture = ends[at]
        for choice, heard, target in ways_on(ward.book, picture[0], face_in(ward, picture)):
            further = (target, ward.device.led(picture[1], heard))
            if further not in seen:
                seen.add(further)
                ends.append(((*run, choice), further))
        at += 1
    return ends[at][0]


def first_run_to(ward, harm, *, most=60):
    """The first run whose last picture has a harm, or None; raises TooMany(most) as pictures_of does."""
    pictures = pictures_of(ward, most=most)
    if not any([has_harm(ward, picture, harm) for picture in pictures]):
        return None
    return first_run_among(ward, (harm,))


def judge_ward(ward, harms, *, most=60):
    """A paper that the ward keeps some harms, or of a run to one; raises TooMany(most) as pictures_of does."""
    pictures = pictures_of(ward, most=most)
    if not any([has_some_harm(ward, picture, harms) for picture in pictures]):
        return "kept", pictures
    run = first_run_among(ward, harms)
    last = along(ward, run)[-1]
    return "harm", run, [harm for harm in harms if has_harm(ward, last, harm)][0]


def ward_holds(ward, harms, thing):
    """Whether any value is a paper for the ward and some harms."""
    if is_tuple_of(thing, 2) and thing[0] == "kept":
        return are_kept_pictures(ward, harms, thing[1])
    if is_tuple_of(thing, 3) and thing[0] == "harm":
        return does_harm(ward, harms, thing[1], thing[2])
    return False


def are_kept_pictures(ward, harms, thing):
    """Whether any value is an ascending tuple of pictures that is closed, with the first one, and without harms."""
    if not isinstance(thing, tuple) or not all([is_picture(ward, picture) for picture in thing]):
        return False
    if not do_ascend(thing) or first_picture(ward) not in thing:
        return False
    if any([has_some_harm(ward, picture, harms) for picture in thing]):
        return False
    known = {picture for picture in thing}
    for picture in thing:
        for further in pictures_behind(ward, picture):
            if further not in known:
                return False
    return True


def does_harm(ward, harms, run, harm):
    """Whether any two values are a run and a harm of its last picture, one of those asked."""
    if harm not in harms or not is_run(ward, run):
        return False
    return has_harm(ward, along(ward, run)[-1], harm)

"""Findings: papers with all that they are about, in which objects stand by their texts."""

from housewardens.alike import alike_holds
from housewardens.bars import bars_paper_holds
from housewardens.books import Book, is_heard
from housewardens.catchers import guest_holds
from housewardens.catching import catching_holds, doubt_holds
from housewardens.days import day_holds
from housewardens.devices import Device, are_faces
from housewardens.ears import choices_paper_holds, ears_paper_holds, is_choice_of
from housewardens.enough import many_holds
from housewardens.errors import BadOnlooker, BadText, BadWard
from housewardens.guests import Guest
from housewardens.keeppapers import keeping_holds
from housewardens.kinds import HARMS, SURE_HARMS, are_harms, is_between, is_number_from, is_tuple_of
from housewardens.learning import learned_holds
from housewardens.logs import is_log
from housewardens.lots import is_lot, lot_behind
from housewardens.onlookers import Onlooker
from housewardens.sights import TOLD_WORDS
from housewardens.surepapers import gap_holds, rounds_hold, surely_holds
from housewardens.walks import people_holds
from housewardens.wards import Ward, is_picture, is_run, ward_holds

MOST_PEOPLE = 6


def told_by_texts(paper):
    """Any value with the texts of books, devices, wards and guests in their place, at any depth of tuples."""
    if isinstance(paper, (Book, Device, Ward, Guest)):
        return str(paper)
    if isinstance(paper, tuple):
        return tuple([told_by_texts(part) for part in paper])
    return paper


def with_device(word, paper):
    """A paper that begins with a word, with the device in the place of its text; any other value as it is.

    Raises BadText(line) for a paper in which no text of a device stands.
    """
    if is_tuple_of(paper, 3) and paper[0] == word:
        return word, Device.read(paper[1]), paper[2]
    return paper


def with_devices(pairs):
    """The same for the papers of pairs, each of anything and a paper."""
    if not isinstance(pairs, tuple):
        return pairs
    return tuple([(pair[0], with_device("kept", pair[1])) if is_tuple_of(pair, 2) else pair for pair in pairs])


def with_devices_at(paper, place):
    """The same for a paper that has such pairs at a place."""
    if not isinstance(paper, tuple) or len(paper) <= place:
        return paper
    return (*paper[:place], with_devices(paper[place]), *paper[place + 1 :])


def are_ears(thing):
    """Whether any value is ears, None too."""
    return thing is None or is_heard(thing)


def is_some_choice(faces, thing):
    """Whether any value is a choice of some faces, None too."""
    return thing is None or is_choice_of(faces, thing)


def holds_ward(ward, harms, paper):
    """Whether any values are a finding about a ward and harms."""
    return are_harms(harms, HARMS) and ward_holds(Ward.read(ward), harms, paper)


def holds_people(text, run, paper):
    """Whether any values are a finding about the people of a run."""
    ward = Ward.read(text)
    return is_run(ward, run) and people_holds(ward, run, paper)


def holds_many(text, number, picture, paper):
    """Whether any values are a finding about whether so many people can be in a picture."""
    ward = Ward.read(text)
    if not is_between(number, 0, MOST_PEOPLE) or not is_picture(ward, picture):
        return False
    return many_holds(ward, number, picture, paper)


def holds_lot(text, log, lot):
    """Whether any values are a finding about the lot behind a log."""
    ward = Ward.read(text)
    return is_log(log) and is_lot(ward.book, lot) and len(lot) > 0 and lot_behind(ward, log) == lot


def holds_beside(text, other, paper):
    """Whether any values are a finding about a device beside a ward."""
    ward = Ward.read(text)
    device = Device.read(other)
    return max(device.shown) < len(ward.faces) and alike_holds(ward, device, paper)


def holds_keeping(text, faces, harms, ears, choice, paper):
    """Whether any values are a finding about whether some device keeps harms."""
    book = Book.read(text)
    if not are_faces(faces) or not are_harms(harms, HARMS) or not are_ears(ears) or not is_some_choice(faces, choice):
        return False
    return keeping_holds(book, faces, harms, with_device("kept", paper), ears=ears, choice=choice)


def holds_ears(text, faces, harms, choice, paper):
    """Whether any values are a finding about least ears."""
    book = Book.read(text)
    if not are_faces(faces) or not are_harms(harms, HARMS) or not is_some_choice(faces, choice):
        return False
    return ears_paper_holds(book, faces, harms, with_devices_at(paper, 1), choice=choice)


def holds_choices(text, faces, harms, ears, paper):
    """Whether any values are a finding about least choices."""
    book = Book.read(text)
    if not are_faces(faces) or not are_harms(harms, HARMS) or not are_ears(ears):
        return False
    return choices_paper_holds(book, faces, harms, with_devices_at(paper, 1), ears=ears)


def holds_surely(text, faces, harms, paper):
    """Whether any values are a finding about whether it can be made sure."""
    book = Book.read(text)
    return are_faces(faces) and are_harms(harms, SURE_HARMS) and surely_holds(book, faces, harms, paper)


def holds_rounds(text, faces, number, harms, paper):
    """Whether any values are a finding about whether it can be made sure in so many rounds."""
    book = Book.read(text)
    if not are_faces(faces) or not is_number_from(number, 0) or not are_harms(harms, SURE_HARMS):
        return False
    return rounds_hold(book, faces, number, harms, paper)


def holds_gap(text, faces, number, harms, paper):
    """Whether any values are a finding about whether a device stays sure with such gaps."""
    book = Book.read(text)
    if not are_faces(faces) or not is_number_from(number, 0) or not are_harms(harms, SURE_HARMS):
        return False
    return gap_holds(book, faces, number, harms, paper)


def holds_bars(text, faces, harms, paper):
    """Whether any values are a finding about fewest bars."""
    book = Book.read(text)
    if not are_faces(faces) or not are_harms(harms, HARMS):
        return False
    return bars_paper_holds(book, faces, harms, with_devices_at(paper, 2))


def holds_catch(text, other, number, paper):
    """Whether any values are a finding about whether a ward's device catches a guest."""
    ward = Ward.read(text)
    guest = Guest.read(other)
    return is_number_from(number, 1) and catching_holds(ward, guest, number, paper)


def holds_doubt(text, other, number, paper):
    """Whether any values are a finding about a doubt."""
    ward = Ward.read(text)
    guest = Guest.read(other)
    return is_number_from(number, 1) and doubt_holds(ward, guest, number, paper)


def holds_guest(text, faces, other, number, paper):
    """Whether any values are a finding about whether some device catches a guest."""
    book = Book.read(text)
    guest = Guest.read(other)
    if not are_faces(faces) or not is_number_from(number, 1):
        return False
    return guest_holds(book, faces, guest, number, with_device("caught", paper))


def holds_learned(text, letters, classes, word, paper):
    """Whether any values are a finding about what an onlooker learns."""
    ward = Ward.read(text)
    onlooker = Onlooker(letters, classes)
    if len(classes) != len(ward.faces) or word not in TOLD_WORDS:
        return False
    return learned_holds(ward, onlooker, word, paper)


def holds_day(text, log, number, paper):
    """Whether any values are a finding about the people of a day."""
    ward = Ward.read(text)
    return is_log(log) and is_between(number, 0, MOST_PEOPLE) and day_holds(ward, log, number, paper)


# The parts behind its word that a finding of each kind has, and what tells whether it holds.
PARTS = {
    "ward": 3, "people": 3, "many": 4, "lot": 3, "beside": 3, "keeping": 6, "ears": 5, "choices": 5, "surely": 4,
    "rounds": 5, "gap": 5, "bars": 4, "catch": 4, "doubt": 4, "guest": 5, "learned": 5, "day": 4,
}  # fmt: skip
HOLDS = {
    "ward": holds_ward,
    "people": holds_people,
    "many": holds_many,
    "lot": holds_lot,
    "beside": holds_beside,
    "keeping": holds_keeping,
    "ears": holds_ears,
    "choices": holds_choices,
    "surely": holds_surely,
    "rounds": holds_rounds,
    "gap": holds_gap,
    "bars": holds_bars,
    "catch": holds_catch,
    "doubt": holds_doubt,
    "guest": holds_guest,
    "learned": holds_learned,
    "day": holds_day,
}


def finding_holds(thing):
    """Whether any value is a finding that holds."""
    if not isinstance(thing, tuple) or not thing or not isinstance(thing[0], str) or thing[0] not in PARTS:
        return False
    parts = thing[1:]
    if len(parts) != PARTS[thing[0]]:
        return False
    holds = HOLDS[thing[0]]
    try:
        return holds(*parts)
    except (BadText, BadWard, BadOnlooker):
        return False

"""The console: an office that is told what to do by commands, and answers with words."""

from housewardens.bars import fewest_bars
from housewardens.commands import command_words, word_of_text
from housewardens.days import people_of_log
from housewardens.devices import Device
from housewardens.ears import least_ears
from housewardens.errors import BadText, BadWard, Harmful, InvalidCommand, NameTaken, NotAlike, NotHeard
from housewardens.keepers import can_keep
from housewardens.kinds import HARMS, SURE_HARMS, are_harms, is_name
from housewardens.learning import first_learned
from housewardens.office import Office
from housewardens.onlookers import Onlooker
from housewardens.sights import TOLD_WORDS
from housewardens.surely import gap_for, rounds_for
from housewardens.texts import NOTHING, heard_told, word_of_heard, word_of_numbers
from housewardens.wards import Ward, judge_ward, word_of_bool

DONE = "ok"
REFUSED = "refused"
NEVER = "never"
NONE = "none"
MANY = "many"


def open_told(office, name, text):
    """Opens a ward; raises InvalidCommand(), NameTaken(name), then InvalidCommand() by the text."""
    if not is_name(name):
        raise InvalidCommand()
    if name in office.names_open:
        raise NameTaken(name)
    office.open_ward(name, ward_told(text))
    return DONE


def ward_told(text):
    """The ward that a text tells; raises InvalidCommand() if it tells none."""
    try:
        return Ward.read(text)
    except (BadText, BadWard):
        raise InvalidCommand() from None


def device_told(ward, text):
    """The device for a ward that a text tells; raises InvalidCommand() if it tells none."""
    try:
        return Ward(ward.book, ward.faces, Device.read(text)).device
    except (BadText, BadWard):
        raise InvalidCommand() from None


def close_told(office, name):
    """Closes a ward."""
    office.close_ward(name)
    return DONE


def renew_told(office, name, text):
    """Renews a ward, if the gate lets the device pass."""
    device = device_told(office.ward_of(name), text)
    try:
        office.renew(name, device)
    except (NotAlike, Harmful):
        return REFUSED
    return DONE


def replace_told(office, name, text):
    """Swaps the device of a ward, if the gate lets the device pass."""
    device = device_told(office.ward_of(name), text)
    try:
        office.swap(name, device)
    except Harmful:
        return REFUSED
    return DONE


def hear_told(office, name, word):
    """Puts what is heard behind the day, if it can be heard."""
    office.ward_of(name)
    heard = letters_told(word)
    try:
        office.hear(name, heard)
    except NotHeard:
        return NEVER
    return DONE


def letters_told(word):
    """The ascending letters that a word tells; raises InvalidCommand() if it tells none."""
    letters = heard_told(word)
    if letters is None:
        raise InvalidCommand()
    return letters


def harms_told(word, words):
    """The harms, of some words, that a word tells; raises InvalidCommand() if it tells none."""
    harms = () if word == NOTHING else tuple(word.split(","))
    if not are_harms(harms, words):
        raise InvalidCommand()
    return harms


def undo_told(office):
    """Takes the last change back."""
    office.undo()
    return DONE


def redo_told(office):
    """Makes the change again that was taken back last."""
    office.redo()
    return DONE


def joined_or(words, other):
    """Some words with blanks between them, or another word if there are none."""
    return " ".join(words) if words else other


def number_or(number, other):
    """The word for a number, or another word for None."""
    return other if number is None else str(number)


def names_told(office):
    """The names of the open wards."""
    return joined_or(office.names_open, NONE)


def text_of_device(office, name):
    """The text of the present device."""
    return word_of_text(str(office.ward_of(name).device))


def text_of_ward(office, name):
    """The text of the ward."""
    return word_of_text(str(office.ward_of(name)))


def face_told(office, name):
    """The number of the face that is shown."""
    return str(office.face_now(name))


def day_told(office, name):
    """The day of a ward."""
    return joined_or([word_of_heard(heard) for heard in office.day_of(name)], NONE)


def lot_told(office, name):
    """The lot behind the day of a ward."""
    return " ".join([word_of_numbers(where) for where in office.lot_now(name)])


def people_told(office, name):
    """The people of the day."""
    return number_or(people_of_log(office.ward_of(name), office.day_of(name)), MANY)


def keeps_told(office, name, word):
    """Whether the ward keeps some harms."""
    ward = office.ward_of(name)
    return word_of_bool(judge_ward(ward, harms_told(word, HARMS))[0] == "kept")


def can_told(office, name, word):
    """Whether some device keeps some harms."""
    ward = office.ward_of(name)
    return word_of_bool(can_keep(ward.book, ward.faces, harms_told(word, HARMS)))


def sure_told(office, name, word):
    """The rounds of the book."""
    ward = office.ward_of(name)
    return number_or(rounds_for(ward.book, ward.faces, harms=harms_told(word, SURE_HARMS)), NEVER)


def gap_told(office, name, word):
    """The gap of the book."""
    ward = office.ward_of(name)
    return number_or(gap_for(ward.book, ward.faces, harms=harms_told(word, SURE_HARMS)), NEVER)


def ears_told(office, name, word):
    """The least ears."""
    ward = office.ward_of(name)
    rows = least_ears(ward.book, ward.faces, harms_told(word, HARMS))
    return joined_or([word_of_heard(ears) for ears in rows], NONE)


def bars_told(office, name, word):
    """The fewest bars."""
    ward = office.ward_of(name)
    rows = fewest_bars(ward.book, ward.faces, harms_told(word, HARMS))
    return joined_or([word_of_numbers(bar) for bar in rows], NONE)


def learn_told(office, name, letters, word):
    """How many ticks it takes until an onlooker who tells all faces apart knows the word."""
    ward = office.ward_of(name)
    onlooker = Onlooker(letters_told(letters), tuple(range(len(ward.faces))))
    if word not in TOLD_WORDS:
        raise InvalidCommand()
    run = first_learned(ward, onlooker, word)
    return NEVER if run is None else str(len(run))


ANSWERS = {
    "open": open_told,
    "close": close_told,
    "renew": renew_told,
    "replace": replace_told,
    "hear": hear_told,
    "undo": undo_told,
    "redo": redo_told,
    "wards": names_told,
    "device": text_of_device,
    "ward": text_of_ward,
    "face": face_told,
    "log": day_told,
    "lot": lot_told,
    "people": people_told,
    "keeps": keeps_told,
    "can": can_told,
    "sure": sure_told,
    "gap": gap_told,
    "ears": ears_told,
    "bars": bars_told,
    "learn": learn_told,
}


class Console:
    """An office, at first without wards, that commands are said to."""

    def __init__(self):
        self._office = Office()

    @property
    def office(self):
        """The office."""
        return self._office

    def say(self, command):
        """The answer to a command; raises InvalidCommand() for any value that is none, and what the office raises."""
        words = command_words(command)
        answer = ANSWERS[words[0]]
        rest = words[1:]
        return answer(self._office, *rest)

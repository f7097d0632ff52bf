"""The errors of the package: each kind of failure has a class of its own."""


class WardError(Exception):
    """The base of all errors of the package."""


class BadBook(WardError):
    """No book: a part is not as told, named by a word or by the number of a move."""

    def __init__(self, part):
        self.part = part


class BadDevice(WardError):
    """No device: the named part is not as told."""

    def __init__(self, part):
        self.part = part


class BadWard(WardError):
    """No ward: the named part is not as told."""

    def __init__(self, part):
        self.part = part


class BadGuest(WardError):
    """No guest: a part is not as told, named by a word or by the number of a move."""

    def __init__(self, part):
        self.part = part


class BadOnlooker(WardError):
    """No onlooker: the named part is not as told."""

    def __init__(self, part):
        self.part = part


class BadText(WardError):
    """No text of what is read: the line with this number is wrong, 0 for what is no string."""

    def __init__(self, line):
        self.line = line


class BadChoice(WardError):
    """No choice in this picture."""

    def __init__(self, choice):
        self.choice = choice


class TooMany(WardError):
    """More is met than was to be looked at."""

    def __init__(self, most):
        self.most = most


class CannotCome(WardError):
    """No such log can come: so many heard strings of it can."""

    def __init__(self, place):
        self.place = place


class Refused(WardError):
    """No device keeps the harms, as the paper shows."""

    def __init__(self, paper):
        self.paper = paper


class NeverSure(WardError):
    """No device makes sure, as the paper shows."""

    def __init__(self, paper):
        self.paper = paper


class NeverStays(WardError):
    """No device stays sure, in a house of so many lots."""

    def __init__(self, number):
        self.number = number


class Uncaught(WardError):
    """No device catches the guest, as the paper shows."""

    def __init__(self, paper):
        self.paper = paper


class OtherFaces(WardError):
    """The onlooker tells apart another number of faces."""


class BadName(WardError):
    """No name for a ward."""

    def __init__(self, name):
        self.name = name


class NameTaken(WardError):
    """A ward is open under this name."""

    def __init__(self, name):
        self.name = name


class NoWard(WardError):
    """No ward is open under this name."""

    def __init__(self, name):
        self.name = name


class NotHeard(WardError):
    """This cannot be heard now."""

    def __init__(self, heard):
        self.heard = heard


class NotAlike(WardError):
    """The log parts both devices beside the house."""

    def __init__(self, log):
        self.log = log


class Harmful(WardError):
    """The device does a harm that was kept, as the paper shows."""

    def __init__(self, paper):
        self.paper = paper


class NothingToUndo(WardError):
    """No change is left to take back."""


class NothingToRedo(WardError):
    """No change that was taken back is left to make again."""


class InvalidCommand(WardError):
    """No command."""

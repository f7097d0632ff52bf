"""What any value is: the plain kinds that books, devices and all papers are checked by."""

AWAY = -1
STAYS = -1
GREATEST_ROOM = 9
GREATEST_FACE = 99
LETTERS = "abcdefghijklmnopqrstuvwxyz"
HARMS = ("bell", "open", "shut")
SURE_HARMS = ("bell", "shut")
LONGEST_NAME = 8


def is_integer(thing):
    """Whether any value is an integer; a bool is none."""
    return isinstance(thing, int) and not isinstance(thing, bool)


def is_number_from(thing, least):
    """Whether any value is an integer from some number on."""
    return is_integer(thing) and thing >= least


def are_integers(thing):
    """Whether any value is a tuple, perhaps empty, of integers."""
    return isinstance(thing, tuple) and all([is_integer(part) for part in thing])


def is_between(thing, low, high):
    """Whether any value is an integer from low to high."""
    return is_integer(thing) and low <= thing <= high


def are_between(thing, low, high):
    """Whether any value is a tuple, perhaps empty, of integers from low to high."""
    return isinstance(thing, tuple) and all([is_between(part, low, high) for part in thing])


def do_ascend(row):
    """Whether parts that can be compared are sorted, none of them twice."""
    return all([row[at] < row[at + 1] for at in range(len(row) - 1)])


def are_ascending(thing, low, high):
    """Whether any value is an ascending tuple, perhaps empty, of integers from low to high."""
    return are_between(thing, low, high) and do_ascend(thing)


def are_letters(thing):
    """Whether any value is an ascending string, perhaps empty, of letters from a to z."""
    return isinstance(thing, str) and all(["a" <= letter <= "z" for letter in thing]) and do_ascend(thing)


def is_tuple_of(thing, many):
    """Whether any value is a tuple with so many parts."""
    return isinstance(thing, tuple) and len(thing) == many


def is_name(thing):
    """Whether any value is a name: a string of one to eight letters from a to z."""
    if not isinstance(thing, str) or not all(["a" <= letter <= "z" for letter in thing]):
        return False
    return 1 <= len(thing) <= LONGEST_NAME


def are_harms(thing, words):
    """Whether any value is an ascending tuple, perhaps empty, of some words."""
    return isinstance(thing, tuple) and all([word in words for word in thing]) and do_ascend(thing)

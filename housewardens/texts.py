"""The lines and words of texts, written and read."""

from housewardens.errors import BadText
from housewardens.kinds import are_letters

NOTHING = "-"
# No line tells a number of more signs; Python refuses to read some thousands of digits.
MOST_SIGNS = 20


def word_of_numbers(numbers):
    """The word for one part of a line that has numbers, perhaps none."""
    return ",".join([str(number) for number in numbers]) if numbers else NOTHING


def word_of_heard(heard):
    """The word for a heard string, silence too."""
    return heard if heard else NOTHING


def number_told(word):
    """The integer that a word tells as Python writes it, or None."""
    digits = word.removeprefix("-")
    if len(word) > MOST_SIGNS or not (digits.isascii() and digits.isdigit()):
        return None
    number = int(word)
    return number if str(number) == word else None


def numbers_told(words):
    """What words tell as numbers, with None for each one that tells none."""
    return tuple([number_told(word) for word in words])


def row_told(word):
    """What one word tells as numbers joined by commas, with None for each one that tells none."""
    return () if word == NOTHING else numbers_told(word.split(","))


def heard_told(word):
    """The heard string that a word tells, or None; silence has a word of its own, not the empty one."""
    if word == NOTHING:
        return ""
    return word if word and are_letters(word) else None


def lines_of(text):
    """The lines of a text; raises BadText(0) for any value that is no string."""
    if not isinstance(text, str):
        raise BadText(0)
    return text.split("\n")


def words_at(lines, at):
    """The words of the line at an index; none behind the last line."""
    return lines[at].split(" ") if at < len(lines) else []


def end_of_kind(lines, at, kind):
    """The index behind the lines of one kind that stand together from an index on."""
    while words_at(lines, at)[:1] == [kind]:
        at += 1
    return at


def parts_at(lines, at, kind):
    """The words behind the first one, in a line that has to be of a kind."""
    words = words_at(lines, at)
    if words[:1] != [kind]:
        raise BadText(at + 1)
    return words[1:]


def parts_of_many(lines, at, kind, many):
    """The words behind the first one, which have to be so many."""
    parts = parts_at(lines, at, kind)
    if len(parts) != many:
        raise BadText(at + 1)
    return parts


def check_end(lines, at):
    """Raises BadText for a line that stands behind all that a text can have."""
    if at < len(lines):
        raise BadText(at + 1)

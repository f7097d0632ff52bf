"""Commands: words in which a console is told what to do."""

from housewardens.errors import InvalidCommand

# How many words a command has by its first word; of those with a text this is the least number.
WORDS = {
    "open": 3,
    "close": 2,
    "renew": 3,
    "replace": 3,
    "hear": 3,
    "undo": 1,
    "redo": 1,
    "wards": 1,
    "device": 2,
    "ward": 2,
    "face": 2,
    "log": 2,
    "lot": 2,
    "people": 2,
    "keeps": 3,
    "can": 3,
    "sure": 3,
    "gap": 3,
    "ears": 3,
    "bars": 3,
    "learn": 4,
}
WITH_TEXT = ("open", "renew", "replace")


def command_words(thing):
    """The words of any value that is a command, a text as one word; raises InvalidCommand()."""
    if not isinstance(thing, str) or "\n" in thing:
        raise InvalidCommand()
    words = thing.split(" ")
    if "" in words or words[0] not in WORDS:
        raise InvalidCommand()
    if words[0] in WITH_TEXT and len(words) > WORDS[words[0]]:
        words = words[:2] + [" ".join(words[2:])]
    if len(words) != WORDS[words[0]]:
        raise InvalidCommand()
    if words[0] in WITH_TEXT:
        words[2] = text_of(words[2])
    return tuple(words)


def text_of(word):
    """The text that a word of a command tells, with line feeds."""
    return word.replace(";", "\n")


def word_of_text(text):
    """The word of a command that tells a text, without line feeds."""
    return text.replace("\n", ";")

"""Readings: deeds and rolls read back from their writings."""

from firmroll.errors import NoText, RollError
from firmroll.rights import KINDS
from firmroll.rolls import Roll
from firmroll.texts import show_roll


def read_deed(text):
    """The deed that a text writes, good or not."""
    words = text.split(" ")
    if not (_is_head(words[:3]) and _is_what(words[3:])):
        raise NoText(text)
    author, number = _numbers(words[0])
    return author, number, _numbers(words[2]), _what(words[3:])


def read_roll(text):
    """The roll that a text writes."""
    first, *rest = text.split("; ")
    if not _is_number(first):
        raise NoText(text)
    try:
        roll = Roll(int(first))
        for part in rest:
            roll.hear(read_deed(part))
    except RollError:
        raise NoText(text) from None
    # Another order, or a deed that stands twice, would make the same roll.
    if show_roll(roll) != text:
        raise NoText(text)
    return roll


def _is_head(words):
    if len(words) != 3 or words[1] != "seen":
        return False
    return words[0].count(".") == 1 and _are_numbers(words[0]) and _are_numbers(words[2])


def _is_what(words):
    if len(words) == 3:
        return words[0] == "use" and _is_name(words[1]) and _is_name(words[2])
    if len(words) != 4 or words[0] not in ("give", "take"):
        return False
    return _is_name(words[1]) and words[2] in KINDS and _is_number(words[3])


def _is_name(word):
    return word.isascii() and word.isalpha() and word.islower()


def _is_number(word):
    if not (word.isascii() and word.isdigit() and len(word) <= 9):
        return False
    return word == "0" or not word.startswith("0")


def _are_numbers(word):
    return all([_is_number(part) for part in word.split(".")])


def _numbers(word):
    return tuple([int(part) for part in word.split(".")])


def _what(words):
    if words[0] == "use":
        return tuple(words)
    word, power, kind, member = words
    return word, power, kind, int(member)

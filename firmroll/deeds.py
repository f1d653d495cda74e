"""Deeds: which are good, what they have seen, and the order they stand in.

A deed is a tuple (author, number, seen, what).
"""

from firmroll.errors import NoDeed


def look(members, deed):
    """Refuses, with NoDeed, a deed that no one of so many members can do."""
    if not (_has_mark(members, deed) and _has_note(members, deed) and _goes_down(members, deed)):
        raise NoDeed(mark(deed))


def mark(deed):
    """The author and the number of a deed."""
    return deed[0], deed[1]


def size(deed):
    """How many deeds a deed has seen."""
    return sum(deed[2])


def has_seen(deed, mark):
    """Whether a deed has seen the one of a mark."""
    author, number = mark
    note = deed[2]
    # An author below 0 would be read off the note's end.
    return 0 <= author < len(note) and 1 <= number <= note[author]


def in_order(deeds):
    """A new list of the deeds, each behind all that it has seen."""
    return sorted(deeds, key=_place)


def _place(deed):
    author, number = mark(deed)
    return size(deed), author, number


def _has_mark(members, deed):
    author, number = mark(deed)
    return 0 <= author < members and number >= 1


def _has_note(members, deed):
    # The author is known to be a member here, so the note can be asked for it.
    author, number, seen, _ = deed
    return len(seen) == members and min(seen) >= 0 and seen[author] == number - 1


def _goes_down(members, deed):
    what = deed[3]
    return what[0] == "use" or deed[0] < what[3] < members

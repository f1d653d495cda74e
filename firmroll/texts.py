"""Texts: deeds and rolls as they are written."""


def show_deed(deed):
    """The writing of a deed."""
    author, number, seen, what = deed
    note = ".".join([str(many) for many in seen])
    words = " ".join([str(part) for part in what])
    return f"{author}.{number} seen {note} {words}"


def show_roll(roll):
    """The writing of a roll, with the deeds that wait."""
    deeds = roll.deeds() + roll.waiting()
    return "; ".join([str(roll.members())] + [show_deed(deed) for deed in deeds])

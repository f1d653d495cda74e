"""Waits: for whom a deed waits to be settled, and a use to be firm.

The waits of a book are a dict: for each mark of a deed that came, the list of
the members for whom it waits to be settled, rising.
"""

from firmroll.deeds import mark, size


def waits_now(book):
    """The waits of a book."""
    waits = {}
    # What a deed hangs on is of its author's seniors, and so is told ahead of it.
    for deed in book.by_rank():
        members = book.unmet(deed)
        for other in book.gives_seen(deed) + book.takes_beside(deed):
            members = members + waits[mark(other)]
        waits[mark(deed)] = sorted(set(members))
    return waits


def firm_uses(book, waits):
    """The firm uses of a book, in order."""
    firm = []
    for use in book.uses():
        if _use_waits(book, waits, use):
            return firm
        firm.append(use)
    return firm


def waits_up_to(book, waits, own):
    """For whom the use of a mark waits to be firm, rising."""
    members = []
    for use in book.uses():
        members = members + _use_waits(book, waits, use)
        if mark(use) == own:
            break
    return sorted(set(members))


def _use_waits(book, waits, use):
    return waits[mark(use)] + book.shorter(size(use))

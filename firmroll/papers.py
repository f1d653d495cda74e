"""Papers: why a deed stands, or does not, for anybody to judge by the deeds.

A row is a tuple (mark, True, give) or (mark, False, reasons).
"""

from firmroll.books import marks
from firmroll.deeds import mark
from firmroll.standing import first_give, unseen


def paper_of(book, standing, deed):
    """The rows that tell whether a deed stands, and those that they want."""
    rows = {}
    wanted = [deed]
    while wanted:
        one = wanted.pop()
        if mark(one) not in rows:
            row, more = _row(book, standing, one)
            rows[mark(one)] = row
            wanted = wanted + more
    return [rows[own] for own in sorted(rows)]


def holds(book, own, rows):
    """Whether rows are a paper of the deed of a mark that is let by."""
    told = {row[0]: row[1] for row in rows}
    if len(told) != len(rows) or own not in told:
        return False
    return all([_is_right(book, told, row) for row in rows])


def _row(book, standing, deed):
    """The row of a deed, and the deeds whose rows it wants."""
    if deed[0] == 0:
        return (mark(deed), True, None), []
    takes = book.takes_beside(deed)
    if standing[mark(deed)]:
        give = first_give(book, standing, deed)
        return (mark(deed), True, mark(give)), [give] + unseen(give, takes)
    takes = [take for take in takes if standing[mark(take)]]
    reasons = []
    wanted = []
    for give in book.gives_seen(deed):
        if standing[mark(give)]:
            take = unseen(give, takes)[0]
            reasons.append(mark(take))
            wanted.append(take)
        else:
            reasons.append(None)
            wanted.append(give)
    return (mark(deed), False, tuple(reasons)), wanted


def _is_right(book, told, row):
    own, stands, why = row
    if own not in book.came:
        return False
    deed = book.came[own]
    if stands:
        return _is_right_that_stands(book, told, deed, why)
    return _is_right_that_falls(book, told, deed, why)


def _is_right_that_stands(book, told, deed, why):
    if deed[0] == 0:
        return why is None
    for give in book.gives_seen(deed):
        if mark(give) == why:
            takes = unseen(give, book.takes_beside(deed))
            return told.get(why) is True and all([told.get(own) is False for own in marks(takes)])
    return False


def _is_right_that_falls(book, told, deed, why):
    gives = book.gives_seen(deed)
    if deed[0] == 0 or not isinstance(why, tuple) or len(why) != len(gives):
        return False
    takes = book.takes_beside(deed)
    return all([_does_for(told, give, takes, reason) for give, reason in zip(gives, why)])


def _does_for(told, give, takes, reason):
    """Whether a reason tells rightly why a give does not do."""
    if reason is None:
        return told.get(mark(give)) is False
    return reason in marks(unseen(give, takes)) and told.get(reason) is True

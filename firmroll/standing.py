"""Standing: which deeds of a book stand, and who has which right.

What stands is a dict: for each mark of a deed that came, True or False.
"""

from firmroll.deeds import has_seen, mark


def unseen(give, takes):
    """Those of some takes that a give has not seen."""
    return [take for take in takes if not has_seen(give, mark(take))]


def first_give(book, standing, deed):
    """The first give by which a deed stands, or None."""
    takes = _that_stand(standing, book.takes_beside(deed))
    for give in _that_stand(standing, book.gives_seen(deed)):
        if not unseen(give, takes):
            return give
    return None


def standing_now(book, before, came):
    """What stands in a book, of what stood ahead of those that came."""
    standing = {own: before[own] for own in before}
    # Only a take bears on what was here already: nothing here had seen what came.
    again = "take" in [deed[3][0] for deed in came]
    for deed in book.by_rank():
        # Whether a deed stands hangs on deeds of its author's seniors alone.
        if again or mark(deed) not in before:
            standing[mark(deed)] = deed[0] == 0 or first_give(book, standing, deed) is not None
    return standing


def has_now(book, standing, right):
    """Whether a member, not 0, has a right."""
    takes = _that_stand(standing, book.takes_of(right))
    gives = _that_stand(standing, book.gives_of(right))
    return any([not unseen(give, takes) for give in gives])


def words(uses, standing):
    """The words of those of some uses that stand."""
    return [use[3][2] for use in _that_stand(standing, uses)]


def _that_stand(standing, deeds):
    return [deed for deed in deeds if standing[mark(deed)]]

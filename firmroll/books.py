"""Books: the deeds that a roll has heard, found as they are asked for."""

from firmroll.deeds import has_seen, in_order, mark, size
from firmroll.errors import TwoFaced
from firmroll.rights import meant, needed


def marks(deeds):
    """The marks of deeds, in the deeds' order."""
    return [mark(deed) for deed in deeds]


class Book:
    """The deeds that have come, and those that wait, each by its mark.

    It takes up only deeds that were looked at, and faced, ahead of it.
    """

    def __init__(self, many):
        self._many = many
        self.came = {}
        self.late = {}
        self._counts = {}
        self._sizes = {}
        self._reach = {}
        self._about = {}

    def face(self, deed):
        """Refuses, with TwoFaced, a deed unlike the known one of its mark."""
        own = mark(deed)
        known = self.came.get(own, self.late.get(own, deed))
        if known != deed:
            raise TwoFaced(own)

    def take_up(self, deeds):
        """Takes up deeds and tells, in order, all that came by it."""
        for deed in deeds:
            if mark(deed) not in self.came:
                self.late[mark(deed)] = deed
        came = []
        ready = self._ready()
        # Each that comes may be what another one waited for.
        while ready:
            for deed in ready:
                self._enter(deed)
            came = came + ready
            ready = self._ready()
        return in_order(came)

    def note(self):
        """The note of a deed that has seen all that came."""
        return tuple([self._counts.get(member, 0) for member in range(self._many)])

    def ordered(self):
        """All that came, each behind all that it has seen."""
        return in_order(list(self.came.values()))

    def by_rank(self):
        """All that came, those of senior members first."""
        return [self.came[own] for own in sorted(self.came)]

    def uses(self):
        """The uses that came, in order."""
        return [deed for deed in self.ordered() if deed[3][0] == "use"]

    def gives_of(self, right):
        """The gives of a right, in order."""
        return self._about.get(("give", right), [])

    def takes_of(self, right):
        """The takes of a right, in order."""
        return self._about.get(("take", right), [])

    def gives_seen(self, deed):
        """The gives of what a deed needs that it has seen, in order."""
        return [give for give in self.gives_of(needed(deed)) if has_seen(deed, mark(give))]

    def takes_beside(self, deed):
        """The takes of what a deed needs that have not seen it, in order."""
        own = mark(deed)
        return [take for take in self.takes_of(needed(deed)) if not has_seen(take, own)]

    def unmet(self, deed):
        """The seniors of a deed's author without a deed that has seen it."""
        author, number = mark(deed)
        return [member for member in range(author) if self._seen_by(member, author) < number]

    def shorter(self, many):
        """The members without a deed that has seen so many or more."""
        return [member for member in range(self._many) if self._sizes.get(member, -1) < many]

    def _seen_by(self, member, author):
        if member not in self._reach:
            return 0
        return self._reach[member][author]

    def _ready(self):
        return [deed for deed in list(self.late.values()) if self._has_all(deed[2])]

    def _has_all(self, note):
        # A member's deeds come one behind the other, so their number tells which are here.
        return all([number <= self._counts.get(member, 0) for member, number in enumerate(note)])

    def _enter(self, deed):
        author, number = mark(deed)
        seen = deed[2]
        del self.late[mark(deed)]
        self.came[mark(deed)] = deed
        self._counts[author] = number
        self._sizes[author] = max(size(deed), self._sizes.get(author, 0))
        reach = self._reach.get(author, seen)
        self._reach[author] = tuple([max(pair) for pair in zip(reach, seen)])
        if deed[3][0] != "use":
            self._file(deed)

    def _file(self, deed):
        key = (deed[3][0], meant(deed))
        self._about[key] = in_order(self._about.get(key, []) + [deed])

"""Rolls: all that a hand has heard, and what it tells of it."""

from firmroll.books import Book, marks
from firmroll.deeds import in_order, look
from firmroll.errors import NoKind, NoMark, NoMember, NoMembers, NoUse
from firmroll.papers import holds, paper_of
from firmroll.rights import KINDS
from firmroll.standing import has_now, standing_now, words
from firmroll.waits import firm_uses, waits_now, waits_up_to


class Roll:
    """The roll of one hand, of so many members."""

    def __init__(self, members):
        if members < 1:
            raise NoMembers(members)
        self._members = members
        self._book = Book(members)
        self._standing = {}
        self._waits = None

    def __len__(self):
        return len(self._book.came)

    def __eq__(self, other):
        return (isinstance(other, Roll) and self._members == other._members
                and self._book.came == other._book.came)

    def __ne__(self, other):
        return not self == other

    def members(self):
        """How many members there are."""
        return self._members

    def deeds(self):
        """The deeds in the roll, in order."""
        return self._book.ordered()

    def waiting(self):
        """The deeds that wait for others to come, by their marks."""
        return [self._book.late[own] for own in sorted(self._book.late)]

    def hear(self, deed):
        """Hears a deed; tells the marks of those that came and of those that changed."""
        look(self._members, deed)
        self._book.face(deed)
        return self._take_up([deed])

    def join(self, other):
        """Hears all that another roll has heard; tells as hear does."""
        if other.members() != self._members:
            raise NoMembers(other.members())
        deeds = other.deeds() + other.waiting()
        # All are faced first, so that a join that is refused changes nothing.
        for deed in deeds:
            self._book.face(deed)
        return self._take_up(deeds)

    def note(self, member):
        """The note of a member's deed that has seen all of the roll."""
        self._look_for_member(member)
        return self._book.note()

    def next_deed(self, member, what):
        """The next deed of a member, not heard yet."""
        note = self.note(member)
        deed = (member, note[member] + 1, note, what)
        look(self._members, deed)
        return deed

    def stands(self, mark):
        """Whether a deed stands."""
        self._find(mark)
        return self._standing[mark]

    def has(self, member, power, kind):
        """Whether a member has a right now."""
        self._look_for_member(member)
        if kind not in KINDS:
            raise NoKind(kind)
        return member == 0 or has_now(self._book, self._standing, (member, power, kind))

    def is_settled(self, mark):
        """Whether nothing that may still come changes whether a deed stands."""
        return not self.waits_for(mark)

    def waits_for(self, mark):
        """The members for whose deed one waits to be settled, rising."""
        self._find(mark)
        return list(self._all_waits()[mark])

    def text(self):
        """The words of the uses that stand, in order."""
        return words(self._book.uses(), self._standing)

    def firm_text(self):
        """The words of the firm uses that stand, in order."""
        return words(firm_uses(self._book, self._all_waits()), self._standing)

    def firm(self):
        """The marks of the firm uses, in order."""
        return marks(firm_uses(self._book, self._all_waits()))

    def firm_waits(self, mark):
        """The members for whose deed a use waits to be firm, rising."""
        if self._find(mark)[3][0] != "use":
            raise NoUse(mark)
        return waits_up_to(self._book, self._all_waits(), mark)

    def paper(self, mark):
        """The paper that tells why a deed stands, or does not."""
        return paper_of(self._book, self._standing, self._find(mark))

    def paper_holds(self, mark, rows):
        """Whether a paper of a deed is let by."""
        self._find(mark)
        return holds(self._book, mark, rows)

    def _take_up(self, deeds):
        before = self._standing
        came = self._book.take_up(deeds)
        if came:
            self._standing = standing_now(self._book, before, came)
            self._waits = None
        changed = [own for own in before if before[own] != self._standing[own]]
        return marks(came), marks(in_order([self._book.came[own] for own in changed]))

    def _all_waits(self):
        # Worked out when it is asked for, once for as long as nothing comes.
        if self._waits is None:
            self._waits = waits_now(self._book)
        return self._waits

    def _find(self, mark):
        if mark not in self._book.came:
            raise NoMark(mark)
        return self._book.came[mark]

    def _look_for_member(self, member):
        if not 0 <= member < self._members:
            raise NoMember(member)

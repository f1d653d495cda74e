"""The document word by word, slow and without the package, to hold rolls against."""


def mark(deed):
    return deed[0], deed[1]


def place(deed):
    return sum(deed[2]), deed[0], deed[1]


def ordered(deeds):
    return sorted(deeds, key=place)


def saw(deed, other):
    """Whether a deed has seen the one of another mark."""
    return other[1] <= deed[2][other[0]]


def need(deed):
    return (deed[0], deed[3][1], "use" if deed[3][0] == "use" else "lead")


def about(deed):
    return (deed[3][3], deed[3][1], deed[3][2])


class Plain:
    """What a hand of so many members tells that has heard a set of deeds."""

    def __init__(self, members, heard):
        self.members = members
        heard = {mark(deed): deed for deed in heard}
        self.inside = {}
        moved = True
        while moved:
            moved = [deed for own, deed in heard.items() if own not in self.inside and all(
                (member, number) in self.inside
                for member in range(members) for number in range(1, deed[2][member] + 1))]
            self.inside.update({mark(deed): deed for deed in moved})
        self.deeds = ordered(self.inside.values())
        self.late = [heard[own] for own in sorted(heard) if own not in self.inside]
        self._stands = {}
        self._settled = {}

    def note(self):
        return tuple(sum(1 for deed in self.deeds if deed[0] == member)
                     for member in range(self.members))

    def done(self, word):
        return [deed for deed in self.deeds if deed[3][0] == word]

    def gives(self, deed):
        return [give for give in self.done("give")
                if about(give) == need(deed) and saw(deed, mark(give))]

    def takes(self, deed):
        return [take for take in self.done("take")
                if about(take) == need(deed) and not saw(take, mark(deed))]

    def bearing(self, deed, give):
        return [take for take in self.takes(deed) if not saw(give, mark(take))]

    def does(self, deed, give):
        return (self.stands(give)
                and not any(self.stands(take) for take in self.bearing(deed, give)))

    def stands(self, deed):
        own = mark(deed)
        if own not in self._stands:
            self._stands[own] = deed[0] == 0 or any(
                self.does(deed, give) for give in self.gives(deed))
        return self._stands[own]

    def has(self, member, power, kind):
        right = (member, power, kind)
        takes = [take for take in self.done("take") if about(take) == right and self.stands(take)]
        return member == 0 or any(
            about(give) == right and self.stands(give)
            and all(saw(give, mark(take)) for take in takes)
            for give in self.done("give"))

    def seen_by(self, member, deed):
        return any(other[0] == member and saw(other, mark(deed)) for other in self.deeds)

    def settled(self, deed):
        own = mark(deed)
        if own not in self._settled:
            self._settled[own] = deed[0] == 0 or (
                all(self.seen_by(member, deed) for member in range(deed[0]))
                and all(self.settled(other) for other in self.gives(deed) + self.takes(deed)))
        return self._settled[own]

    def hangs_on(self, deed):
        """The deed itself and all that it hangs on."""
        found = {}
        left = [deed]
        while left:
            one = left.pop()
            if mark(one) not in found:
                found[mark(one)] = one
                left += self.gives(one) + self.takes(one)
        return list(found.values())

    def waits_for(self, deed):
        return sorted({member for one in self.hangs_on(deed) for member in range(one[0])
                       if not self.seen_by(member, one)})

    def text(self):
        return [use[3][2] for use in self.done("use") if self.stands(use)]

    def longer(self, member, use):
        return any(deed[0] == member and sum(deed[2]) >= sum(use[2]) for deed in self.deeds)

    def up_to(self, use):
        return [one for one in self.done("use") if place(one) <= place(use)]

    def is_firm(self, use):
        return all(self.settled(one) and all(self.longer(member, one)
                                             for member in range(self.members))
                   for one in self.up_to(use))

    def firm(self):
        return [use for use in self.done("use") if self.is_firm(use)]

    def firm_text(self):
        return [use[3][2] for use in self.firm() if self.stands(use)]

    def firm_waits(self, use):
        waits = {member for one in self.up_to(use) for member in self.waits_for(one)}
        return sorted(waits | {member for member in range(self.members)
                               if not self.longer(member, use)})

    def paper(self, deed):
        rows = {}
        left = [deed]
        while left:
            one = left.pop()
            if mark(one) not in rows:
                rows[mark(one)], more = self.row(one)
                left += more
        return [rows[own] for own in sorted(rows)]

    def row(self, deed):
        if deed[0] == 0:
            return (mark(deed), True, None), []
        for give in self.gives(deed):
            if self.does(deed, give):
                return (mark(deed), True, mark(give)), [give] + self.bearing(deed, give)
        reasons, more = [], []
        for give in self.gives(deed):
            if not self.stands(give):
                reasons.append(None)
                more.append(give)
                continue
            take = [take for take in self.bearing(deed, give) if self.stands(take)][0]
            reasons.append(mark(take))
            more.append(take)
        return (mark(deed), False, tuple(reasons)), more

    def holds(self, own, rows):
        marks = [row[0] for row in rows]
        if len(set(marks)) < len(marks) or own not in marks:
            return False
        told = {row[0]: row[1] for row in rows}
        return all(row[0] in self.inside and self.right(told, *row) for row in rows)

    def right(self, told, own, stands, why):
        deed = self.inside[own]
        gives = {mark(give): give for give in self.gives(deed)}
        if stands and deed[0] == 0:
            return why is None
        if stands:
            return why in gives and told.get(why) is True and all(
                told.get(mark(take)) is False for take in self.bearing(deed, gives[why]))
        if deed[0] == 0 or len(why) != len(gives):
            return False
        for give, reason in zip(gives.values(), why):
            if reason is None:
                if told.get(mark(give)) is not False:
                    return False
            elif (reason not in [mark(take) for take in self.bearing(deed, give)]
                    or told.get(reason) is not True):
                return False
        return True

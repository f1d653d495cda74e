"""Promises [11] and [12]: which deeds stand, and who has which right."""

from firmroll.errors import NoKind, NoMark, NoMember
from firmroll.rolls import Roll
from tests.hands import HandCase, give, heard, marks_of, take, use
from tests.houses import busy, carried, deed
from tests.plain import Plain


class StandCase(HandCase):
    def assertStanding(self, members, deeds, fallen):
        """Of the deeds just those of the fallen marks do not stand, in any order heard."""
        for order in (deeds, deeds[::-1], deeds[1:] + deeds[:1]):
            roll = heard(members, order)
            self.assertEqual(len(roll), len(deeds))
            for own in marks_of(deeds):
                self.assertIs(roll.stands(own), own not in fallen, own)
                self.assertIs(roll.stands(mark=own), own not in fallen, own)


class TestNeed(StandCase):
    """What a deed needs, and that a give of it has to be seen, and to stand."""

    def test_of_member_0(self):
        whats = [use("a"), use("b", "door"), give(1), give(2, "lead"), take(1), take(2, "lead"),
                 give(1, "use", "well"), take(2, "use", "door")]
        deeds = [deed(0, at + 1, (at, 0, 0), what) for at, what in enumerate(whats)]
        self.assertStanding(3, deeds, [])

    def test_of_one_member_alone(self):
        self.assertStanding(1, [deed(0, 1, (0,)), deed(0, 2, (1,), use("a", "door"))], [])

    def test_without_a_give(self):
        for what in (use(), give(2), take(2), give(2, "lead"), take(2, "lead")):
            self.assertStanding(3, [deed(1, 1, (0, 0, 0), what)], [(1, 1)])
        self.assertStanding(3, [deed(2, 1, (0, 0, 0), use())], [(2, 1)])

    def test_to_use_needs_the_use(self):
        for kind, fallen in (("use", []), ("lead", [(1, 1)])):
            first = deed(0, 1, (0, 0, 0), give(1, kind))
            self.assertStanding(3, [first, deed(1, 1, (1, 0, 0), use())], fallen)

    def test_to_give_or_take_needs_the_lead(self):
        for word in (give, take):
            for other in ("use", "lead"):
                for kind, fallen in (("use", [(1, 1)]), ("lead", [])):
                    first = deed(0, 1, (0, 0, 0), give(1, kind))
                    second = deed(1, 1, (1, 0, 0), word(2, other))
                    self.assertStanding(3, [first, second], fallen)

    def test_of_that_power(self):
        first = deed(0, 1, (0, 0, 0), give(1, "use", "door"))
        self.assertStanding(3, [first, deed(1, 1, (1, 0, 0), use("a", "roof"))], [(1, 1)])
        self.assertStanding(3, [first, deed(1, 1, (1, 0, 0), use("a", "door"))], [])
        first = deed(0, 1, (0, 0, 0), give(1, "lead", "door"))
        for word in (give, take):
            second = deed(1, 1, (1, 0, 0), word(2, "use", "roof"))
            self.assertStanding(3, [first, second], [(1, 1)])
            second = deed(1, 1, (1, 0, 0), word(2, "use", "door"))
            self.assertStanding(3, [first, second], [])

    def test_to_its_author(self):
        first = deed(0, 1, (0, 0, 0), give(2))
        self.assertStanding(3, [first, deed(1, 1, (1, 0, 0), use())], [(1, 1)])
        self.assertStanding(3, [first, deed(2, 1, (1, 0, 0), use())], [])

    def test_among_those_that_it_has_seen(self):
        deeds = [deed(0, 1, (0, 0, 0), use()), deed(0, 2, (1, 0, 0), give(1)),
                 deed(1, 1, (1, 0, 0), use("a")), deed(1, 2, (2, 1, 0), use("b"))]
        self.assertStanding(3, deeds, [(1, 1)])

    def test_a_take_gives_nothing(self):
        deeds = [deed(0, 1, (0, 0), take(1)), deed(1, 1, (1, 0), use())]
        self.assertStanding(2, deeds, [(1, 1)])

    def test_a_give_that_does_not_stand_does_nothing(self):
        deeds = [deed(1, 1, (0, 0, 0), give(2)), deed(2, 1, (0, 1, 0), use())]
        self.assertStanding(3, deeds, [(1, 1), (2, 1)])

    def test_down_through_many_hands(self):
        deeds = [deed(0, 1, (0,) * 6, give(1, "lead")),
                 deed(1, 1, (1, 0, 0, 0, 0, 0), give(2, "lead")),
                 deed(2, 1, (1, 1, 0, 0, 0, 0), give(3, "lead")),
                 deed(3, 1, (1, 1, 1, 0, 0, 0), give(4, "lead")),
                 deed(4, 1, (1, 1, 1, 1, 0, 0), give(5, "use")),
                 deed(5, 1, (1, 1, 1, 1, 1, 0), use())]
        self.assertStanding(6, deeds, [])
        late = deed(0, 2, (1, 0, 0, 0, 0, 0), take(1, "lead"))
        self.assertStanding(6, deeds + [late], [(1, 1), (2, 1), (3, 1), (4, 1), (5, 1)])
        late = deed(0, 2, (1, 1, 0, 0, 0, 0), take(2, "lead"))
        self.assertStanding(6, deeds + [late], [(2, 1), (3, 1), (4, 1), (5, 1)])
        late = deed(0, 2, (1, 1, 1, 1, 1, 0), take(5))
        self.assertStanding(6, deeds + [late], [(5, 1)])

    def test_one_of_several_gives_is_enough(self):
        deeds = [deed(1, 1, (0, 0, 0), give(2)), deed(0, 1, (0, 0, 0), give(2)),
                 deed(1, 2, (0, 1, 0), give(2)), deed(2, 1, (1, 2, 0), use())]
        self.assertStanding(3, deeds, [(1, 1), (1, 2)])


class TestTakes(StandCase):
    """Gives and takes beside one another."""

    GIVE = deed(0, 1, (0, 0, 0), give(1))

    def test_a_take_beside_the_deed(self):
        late = deed(0, 2, (1, 0, 0), take(1))
        self.assertStanding(3, [self.GIVE, late, deed(1, 1, (1, 0, 0), use())], [(1, 1)])

    def test_a_take_that_the_deed_has_seen(self):
        late = deed(0, 2, (1, 0, 0), take(1))
        self.assertStanding(3, [self.GIVE, late, deed(1, 1, (2, 0, 0), use())], [(1, 1)])

    def test_a_take_that_has_seen_the_deed(self):
        deeds = [self.GIVE, deed(1, 1, (1, 0, 0), use("a")), deed(1, 2, (1, 1, 0), use("b")),
                 deed(0, 2, (1, 1, 0), take(1)), deed(1, 3, (2, 2, 0), use("c"))]
        self.assertStanding(3, deeds, [(1, 2), (1, 3)])

    def test_a_give_that_has_seen_the_take(self):
        deeds = [self.GIVE, deed(0, 2, (1, 0, 0), take(1)), deed(0, 3, (2, 0, 0), give(1)),
                 deed(1, 1, (3, 0, 0), use())]
        self.assertStanding(3, deeds, [])

    def test_of_two_gives_the_one_that_has_seen_the_take(self):
        take_it = deed(0, 2, (1, 0, 0), take(1))
        deeds = [self.GIVE, take_it, deed(1, 1, (2, 0, 0), use("a")),
                 deed(0, 3, (2, 0, 0), give(1)), deed(1, 2, (3, 1, 0), use("b"))]
        self.assertStanding(3, deeds, [(1, 1)])

    def test_a_take_of_which_one_give_has_seen_one_and_the_other_another(self):
        # 1 and 2 lead; each has taken from 3, and neither has seen what the other took.
        lead = [deed(0, 1, (0,) * 4, give(1, "lead")), deed(0, 2, (1, 0, 0, 0), give(2, "lead"))]
        takes = [deed(1, 1, (2, 0, 0, 0), take(3)), deed(2, 1, (2, 0, 0, 0), take(3))]
        gives = [deed(1, 2, (2, 1, 0, 0), give(3)), deed(2, 2, (2, 0, 1, 0), give(3))]
        word = deed(3, 1, (2, 2, 2, 0), use())
        self.assertStanding(4, lead + takes + gives + [word], [(3, 1)])
        self.assertStanding(4, lead + takes[:1] + gives[:1] + [deed(3, 1, (2, 2, 0, 0), use())],
                            [])
        more = deed(1, 3, (2, 2, 1, 0), give(3))
        self.assertStanding(4, lead + takes + gives + [more, deed(3, 1, (2, 3, 2, 0), use())], [])

    def test_a_take_beside_a_give_goes_ahead_of_it(self):
        # 1 gives to 2 what 0 takes from 2, and neither has seen the other.
        deeds = [deed(0, 1, (0, 0, 0), give(1, "lead")), deed(1, 1, (1, 0, 0), give(2)),
                 deed(0, 2, (1, 0, 0), take(2)), deed(2, 1, (1, 1, 0), use("a")),
                 deed(2, 2, (2, 1, 1), use("b"))]
        self.assertStanding(3, deeds, [(2, 1), (2, 2)])
        # The give of one who has seen the take is free of it.
        deeds = deeds + [deed(1, 2, (2, 1, 0), give(2)), deed(2, 3, (2, 2, 2), use("c"))]
        self.assertStanding(3, deeds, [(2, 1), (2, 2)])

    def test_a_junior_take_beside_a_senior_give(self):
        # Rank does not help the give: the take of 1, who leads, goes ahead of it.
        deeds = [deed(0, 1, (0, 0, 0), give(1, "lead")), deed(0, 2, (1, 0, 0), give(2)),
                 deed(1, 1, (1, 0, 0), take(2)), deed(2, 1, (2, 0, 0), use())]
        self.assertStanding(3, deeds, [(2, 1)])

    def test_a_take_that_does_not_stand(self):
        deeds = [deed(0, 1, (0, 0, 0), give(2)), deed(1, 1, (1, 0, 0), take(2)),
                 deed(2, 1, (1, 0, 0), use("a")), deed(2, 2, (1, 1, 1), use("b"))]
        self.assertStanding(3, deeds, [(1, 1)])
        # With the use alone one does not take.
        deeds = [deed(0, 1, (0, 0, 0), give(2)), deed(0, 2, (1, 0, 0), give(1)),
                 deed(1, 1, (2, 0, 0), take(2)), deed(2, 1, (1, 0, 0), use())]
        self.assertStanding(3, deeds, [(1, 1)])

    def test_a_take_whose_lead_is_taken(self):
        deeds = [deed(0, 1, (0, 0, 0), give(1, "lead")), deed(0, 2, (1, 0, 0), give(2)),
                 deed(1, 1, (2, 0, 0), take(2)), deed(2, 1, (2, 0, 0), use())]
        self.assertStanding(3, deeds, [(2, 1)])
        self.assertStanding(3, deeds + [deed(0, 3, (2, 0, 0), take(1, "lead"))], [(1, 1)])
        # A take of the lead that has seen the take comes too late for that.
        self.assertStanding(3, deeds + [deed(0, 3, (2, 1, 0), take(1, "lead"))], [(2, 1)])

    def test_what_was_given_while_one_might_stays_given(self):
        deeds = [deed(0, 1, (0, 0, 0), give(1, "lead")), deed(1, 1, (1, 0, 0), give(2)),
                 deed(2, 1, (1, 1, 0), use("a"))]
        late = deed(0, 2, (1, 1, 0), take(1, "lead"))
        more = [deed(2, 2, (2, 1, 1), use("b")), deed(1, 2, (2, 1, 0), give(2)),
                deed(2, 3, (2, 2, 2), use("c"))]
        self.assertStanding(3, deeds + [late] + more, [(1, 2)])

    def test_what_was_given_beside_the_take_does_not(self):
        deeds = [deed(0, 1, (0, 0, 0), give(1, "lead")), deed(1, 1, (1, 0, 0), give(2)),
                 deed(2, 1, (1, 1, 0), use("a")), deed(0, 2, (1, 0, 0), take(1, "lead"))]
        self.assertStanding(3, deeds, [(1, 1), (2, 1)])

    def test_a_take_of_something_else(self):
        deeds = [self.GIVE, deed(1, 1, (1, 0, 0), use())]
        for what in (take(2), take(1, "lead"), take(1, "use", "door"), give(1), use()):
            self.assertStanding(3, deeds + [deed(0, 2, (1, 0, 0), what)], [])
        self.assertStanding(3, deeds + [deed(0, 2, (1, 0, 0), take(1))], [(1, 1)])
        deeds = [deed(0, 1, (0, 0, 0), give(1, "lead")), deed(1, 1, (1, 0, 0), give(2))]
        for what in (take(2, "lead"), take(2), take(1), take(1, "lead", "door")):
            self.assertStanding(3, deeds + [deed(0, 2, (1, 0, 0), what)], [])
        self.assertStanding(3, deeds + [deed(0, 2, (1, 0, 0), take(1, "lead"))], [(1, 1)])

    def test_a_take_ahead_of_the_give_that_the_give_has_not_seen(self):
        # 0 takes from 2 what 2 never had; 1 gives it beside that.
        deeds = [deed(0, 1, (0, 0, 0), give(1, "lead")), deed(0, 2, (1, 0, 0), take(2)),
                 deed(1, 1, (1, 0, 0), give(2)), deed(2, 1, (1, 1, 0), use())]
        self.assertStanding(3, deeds, [(2, 1)])

    def test_the_take_is_of_the_deed_not_of_the_give(self):
        # The give has seen 0.2 and not 0.3, the deed has seen both.
        deeds = [self.GIVE, deed(0, 2, (1, 0, 0), take(1)), deed(0, 3, (2, 0, 0), give(1)),
                 deed(0, 4, (3, 0, 0), take(1)), deed(1, 1, (4, 0, 0), use())]
        self.assertStanding(3, deeds, [(1, 1)])
        deeds[4] = deed(1, 1, (3, 0, 0), use())
        self.assertStanding(3, deeds, [(1, 1)])
        deeds = deeds[:3] + [deeds[4], deed(0, 4, (3, 1, 0), take(1))]
        self.assertStanding(3, deeds, [])


class TestNoMark(HandCase):
    def test_not_in_the_roll(self):
        deeds = [deed(0, 1, (0, 0)), deed(0, 2, (1, 0)), deed(1, 1, (1, 0))]
        roll = heard(2, deeds + [deed(0, 4, (3, 0)), deed(1, 3, (1, 2))])
        for own in ((0, 3), (0, 4), (1, 2), (1, 3), (0, 0), (1, 0), (0, -1), (-1, 1), (2, 1),
                    (9, 9), (0, 999999999)):
            for call in (roll.stands, roll.is_settled, roll.waits_for, roll.firm_waits,
                         roll.paper):
                self.assertRefused(NoMark, own, lambda: call(own), roll)
                self.assertRefused(NoMark, own, lambda: call(mark=own), roll)
            for rows in ([], [(own, True, None)], roll.paper((0, 1))):
                self.assertRefused(NoMark, own, lambda: roll.paper_holds(own, rows), roll)
                self.assertRefused(NoMark, own, lambda: roll.paper_holds(mark=own, rows=rows),
                                   roll)

    def test_nothing_is_in_an_empty_one(self):
        roll = Roll(2)
        for own in ((0, 1), (1, 1), (0, 0)):
            self.assertRefused(NoMark, own, lambda: roll.stands(own), roll)

    def test_it_is_known_once_it_came(self):
        roll = heard(2, [deed(1, 1, (1, 0))])
        self.assertRefused(NoMark, (1, 1), lambda: roll.stands((1, 1)), roll)
        roll.hear(deed(0, 1, (0, 0), give(1)))
        self.assertIs(roll.stands((1, 1)), True)


class TestHas(HandCase):
    def assertHas(self, deeds, members, *rights):
        """Of all rights of members but 0 just these are had."""
        for order in (deeds, deeds[::-1]):
            roll = heard(members, order)
            for member in range(members):
                for power in ("roof", "door"):
                    for kind in ("use", "lead"):
                        expected = member == 0 or (member, power, kind) in rights
                        told = roll.has(member, power, kind)
                        self.assertIs(told, expected, (member, power, kind))
                        self.assertIs(roll.has(kind=kind, power=power, member=member), expected)

    def test_nothing_given(self):
        self.assertHas([], 3)
        self.assertHas([deed(0, 1, (0, 0, 0), use())], 3)

    def test_given(self):
        for member in (1, 2):
            for kind in ("use", "lead"):
                for power in ("roof", "door"):
                    self.assertHas([deed(0, 1, (0, 0, 0), give(member, kind, power))], 3,
                                   (member, power, kind))

    def test_given_by_one_who_leads(self):
        deeds = [deed(0, 1, (0, 0, 0), give(1, "lead")), deed(1, 1, (1, 0, 0), give(2))]
        self.assertHas(deeds, 3, (1, "roof", "lead"), (2, "roof", "use"))

    def test_given_by_one_who_might_not(self):
        self.assertHas([deed(1, 1, (0, 0, 0), give(2))], 3)
        deeds = [deed(0, 1, (0, 0, 0), give(1)), deed(1, 1, (1, 0, 0), give(2))]
        self.assertHas(deeds, 3, (1, "roof", "use"))

    def test_taken(self):
        first = deed(0, 1, (0, 0, 0), give(1))
        self.assertHas([first, deed(0, 2, (1, 0, 0), take(1))], 3)
        for what in (take(1, "lead"), take(2), take(1, "use", "door"), give(2, "lead")):
            right = [(2, "roof", "lead")] if what[0] == "give" else []
            self.assertHas([first, deed(0, 2, (1, 0, 0), what)], 3, (1, "roof", "use"), *right)

    def test_taken_though_what_was_done_with_it_stands(self):
        deeds = [deed(0, 1, (0, 0, 0), give(1, "lead")), deed(1, 1, (1, 0, 0), give(2)),
                 deed(0, 2, (1, 1, 0), take(1, "lead"))]
        self.assertHas(deeds, 3, (2, "roof", "use"))

    def test_taken_and_given_again(self):
        deeds = [deed(0, 1, (0, 0, 0), give(1)), deed(0, 2, (1, 0, 0), take(1)),
                 deed(0, 3, (2, 0, 0), give(1))]
        self.assertHas(deeds, 3, (1, "roof", "use"))
        self.assertHas(deeds + [deed(0, 4, (3, 0, 0), take(1))], 3)

    def test_taken_beside_the_give(self):
        deeds = [deed(0, 1, (0, 0, 0), give(1, "lead")), deed(1, 1, (1, 0, 0), give(2)),
                 deed(0, 2, (1, 0, 0), take(2))]
        self.assertHas(deeds, 3, (1, "roof", "lead"))
        more = deed(1, 2, (2, 1, 0), give(2))
        self.assertHas(deeds + [more], 3, (1, "roof", "lead"), (2, "roof", "use"))

    def test_taken_by_one_who_might_not(self):
        deeds = [deed(0, 1, (0, 0, 0), give(2)), deed(1, 1, (1, 0, 0), take(2))]
        self.assertHas(deeds, 3, (2, "roof", "use"))

    def test_each_take_has_to_be_seen(self):
        deeds = [deed(0, 1, (0, 0, 0), give(1, "lead")), deed(0, 2, (1, 0, 0), take(2)),
                 deed(1, 1, (1, 0, 0), take(2)), deed(1, 2, (1, 1, 0), give(2))]
        self.assertHas(deeds, 3, (1, "roof", "lead"))
        deeds = deeds + [deed(1, 3, (2, 2, 0), give(2))]
        self.assertHas(deeds, 3, (1, "roof", "lead"), (2, "roof", "use"))

    def test_what_waits_does_not_count(self):
        late = [deed(0, 2, (1, 0, 0), give(1)), deed(0, 4, (3, 0, 0), take(2))]
        roll = heard(3, late)
        self.assertIs(roll.has(1, "roof", "use"), False)
        roll.hear(deed(0, 1, (0, 0, 0), give(2)))
        self.assertIs(roll.has(1, "roof", "use"), True)
        self.assertIs(roll.has(2, "roof", "use"), True)
        roll.hear(deed(0, 3, (2, 0, 0)))
        self.assertIs(roll.has(2, "roof", "use"), False)

    def test_no_member(self):
        roll = heard(3, [deed(0, 1, (0, 0, 0), give(1))])
        for member in (3, -1, -3, 999999999):
            for kind in ("use", "lead", "give", ""):
                self.assertRefused(NoMember, member, lambda: roll.has(member, "roof", kind), roll)

    def test_no_kind(self):
        roll = heard(3, [deed(0, 1, (0, 0, 0), give(1))])
        for kind in ("give", "take", "", "Use", "uses", "leads", "us", "roof", "use "):
            for member in range(3):
                self.assertRefused(NoKind, kind, lambda: roll.has(member, "roof", kind), roll)
                self.assertRefused(NoKind, kind, lambda: roll.has(
                    member=member, power="roof", kind=kind), roll)


class TestMany(HandCase):
    def test_as_the_words_tell(self):
        for members in (1, 2, 3, 4, 6):
            for seed in range(4):
                world = busy(members, 60, seed * 7 + members)
                roll, plain = heard(members, world), Plain(members, world)
                for one in world:
                    self.assertIs(roll.stands(one[:2]), plain.stands(one))
                for member in range(members):
                    for power in ("roof", "door", "well"):
                        for kind in ("use", "lead"):
                            self.assertIs(roll.has(member, power, kind),
                                          plain.has(member, power, kind))

    def test_no_deed_changes_whether_one_of_a_senior_stands(self):
        for members in (2, 3, 6):
            for seed in range(4):
                world = carried(busy(members, 80, seed + members * 5), seed)
                roll = Roll(members)
                for one in world:
                    changed = self.assertChanges(roll, lambda: roll.hear(one))[1]
                    for author, _ in changed:
                        self.assertGreater(author, one[0])

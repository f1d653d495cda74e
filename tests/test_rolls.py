"""Promises [8], [9] and [10]: rolls, what they hear, and what is next."""

from firmroll.errors import NoDeed, NoMember, NoMembers, TwoFaced
from firmroll.rolls import Roll
from tests.hands import HandCase, everything, give, heard, marks_of, take, use
from tests.houses import deed


class TestRoll(HandCase):
    def test_members(self):
        for members in (1, 2, 3, 6):
            self.assertEqual(Roll(members).members(), members)
            self.assertEqual(Roll(members=members).members(), members)

    def test_fewer_than_one(self):
        for members in (0, -1, -6, -999999999):
            self.assertRefused(NoMembers, members, lambda: Roll(members))
            self.assertRefused(NoMembers, members, lambda: Roll(members=members))

    def test_of_nothing_heard(self):
        for members in (1, 3, 6):
            told = everything(Roll(members))
            for name in ("deeds", "waiting", "text", "firm", "firm text"):
                self.assertEqual(told[name], [], name)
            self.assertEqual(told["len"], 0)
            self.assertEqual(told["notes"], [(0,) * members] * members)


class TestHear(HandCase):
    def setUp(self):
        # What has seen what: 0.1 < 1.1 < 1.2 < 2.1, and 0.1 < 2.1.
        self.first = deed(0, 1, (0, 0, 0), give(1))
        self.second = deed(1, 1, (1, 0, 0), use("oak"))
        self.third = deed(1, 2, (1, 1, 0), use("tin"))
        self.fourth = deed(2, 1, (1, 2, 0), use("lime"))
        self.all = [self.first, self.second, self.third, self.fourth]

    def test_in_order(self):
        roll = Roll(3)
        for at, one in enumerate(self.all):
            told = roll.hear(one)
            self.assertEqual(told, ([marks_of(self.all)[at]], []))
            self.assertIs(type(told), tuple)
            self.assertEqual([type(part) for part in told], [list, list])
            self.assertEqual(roll.deeds(), self.all[:at + 1])
            self.assertEqual(roll.waiting(), [])
            self.assertEqual(len(roll), at + 1)

    def test_by_name(self):
        self.assertEqual(Roll(3).hear(deed=self.first), ([(0, 1)], []))

    def test_twice(self):
        roll = Roll(3)
        for one in self.all:
            roll.hear(one)
            before = everything(roll)
            for again in roll.deeds():
                self.assertEqual(roll.hear(again), ([], []))
                self.assertEqual(everything(roll), before)

    def test_twice_while_it_waits(self):
        roll = heard(3, [self.second, self.fourth])
        before = everything(roll)
        for one in (self.second, self.fourth):
            self.assertEqual(roll.hear(one), ([], []))
            self.assertEqual(everything(roll), before)
        self.assertEqual(roll.waiting(), [self.second, self.fourth])

    def test_a_like_deed_that_is_another_object(self):
        roll = heard(3, [self.first, self.third])
        for one in (self.first, self.third):
            like = (one[0], one[1], tuple(list(one[2])), tuple(list(one[3])))
            self.assertEqual(roll.hear(like), ([], []))

    def test_ahead_of_what_it_has_seen(self):
        roll = Roll(3)
        for one in (self.second, self.third, self.fourth):
            self.assertEqual(roll.hear(one), ([], []))
        self.assertEqual((len(roll), roll.deeds()), (0, []))
        self.assertEqual(roll.waiting(), [self.second, self.third, self.fourth])
        self.assertEqual(roll.note(0), (0, 0, 0))
        self.assertEqual(roll.hear(self.first), ([(0, 1), (1, 1), (1, 2), (2, 1)], []))
        self.assertEqual((roll.deeds(), roll.waiting()), (self.all, []))

    def test_it_waits_for_its_own_author_too(self):
        roll = heard(2, [deed(1, 2, (0, 1))])
        self.assertEqual((len(roll), len(roll.waiting())), (0, 1))
        self.assertEqual(roll.hear(deed(1, 1, (0, 0))), ([(1, 1), (1, 2)], []))

    def test_it_waits_for_each_of_several(self):
        last = deed(2, 1, (1, 1, 0))
        for one, other in ((deed(0, 1, (0, 0, 0)), deed(1, 1, (0, 0, 0))),
                           (deed(1, 1, (0, 0, 0)), deed(0, 1, (0, 0, 0)))):
            roll = heard(3, [last])
            self.assertEqual(roll.hear(one), ([one[:2]], []))
            self.assertEqual(roll.waiting(), [last])
            self.assertEqual(roll.hear(other), ([other[:2], (2, 1)], []))

    def test_it_comes_where_some_others_still_wait(self):
        roll = heard(3, [self.fourth, self.second])
        self.assertEqual(roll.hear(self.first), ([(0, 1), (1, 1)], []))
        self.assertEqual(roll.waiting(), [self.fourth])
        self.assertEqual(roll.hear(self.third), ([(1, 2), (2, 1)], []))

    def test_it_does_not_wait_for_what_it_has_not_seen(self):
        roll = heard(3, [self.second])
        self.assertEqual(roll.hear(deed(2, 1, (0, 0, 0))), ([(2, 1)], []))
        self.assertEqual(roll.waiting(), [self.second])

    def test_what_came_is_told_in_order(self):
        # By size, then author: 2.1 and 1.1 are of size 1, 0.2 of 2, 1.2 of 3.
        late = [deed(1, 2, (2, 1, 0)), deed(0, 2, (1, 0, 1)), deed(2, 1, (1, 0, 0)),
                deed(1, 1, (1, 0, 0))]
        expected = [(0, 1), (1, 1), (2, 1), (0, 2), (1, 2)]
        for order in (late, late[::-1], late[2:] + late[:2]):
            roll = heard(3, order)
            self.assertEqual(roll.waiting(), sorted(late))
            self.assertEqual(roll.hear(deed(0, 1, (0, 0, 0))), (expected, []))
            self.assertEqual(marks_of(roll.deeds()), expected)

    def test_no_deed(self):
        bad = [deed(3, 1, (0, 0, 0)), deed(-1, 1, (0, 0, 0)), deed(0, 0, (0, 0, 0)),
               deed(0, 0, (-1, 0, 0)), deed(2, 2, (0, 0)), deed(2, 2, (0, 0, 1, 0)),
               deed(2, 2, (0, -1, 1)), deed(2, 2, (1, 2, 2)), deed(2, 2, (1, 2, 0)),
               deed(1, 3, (1, 0, 2), give(1)), deed(1, 3, (1, 2, 0), give(0)),
               deed(1, 3, (1, 2, 0), give(1)), deed(1, 3, (1, 2, 0), take(1, "lead")),
               deed(1, 3, (1, 2, 0), take(3)), deed(1, 3, (1, 2, 0), take(-1))]
        for roll in (Roll(3), heard(3, self.all), heard(3, self.all[1:])):
            for one in bad:
                self.assertRefused(NoDeed, one[:2], lambda: roll.hear(one), roll)
                self.assertRefused(NoDeed, one[:2], lambda: roll.hear(deed=one), roll)

    def test_two_faced_with_one_in_the_roll(self):
        roll = heard(3, self.all)
        for unlike in (deed(0, 1, (0, 0, 0), give(2)), deed(0, 1, (0, 0, 0), take(1)),
                       deed(0, 1, (0, 0, 0), give(1, "lead")), deed(0, 1, (0, 1, 0), give(1)),
                       deed(1, 2, (0, 1, 0), use("tin")), deed(1, 2, (1, 1, 0), use("oak")),
                       deed(1, 2, (1, 1, 0), use("tin", "door")), deed(1, 2, (1, 1, 7), use())):
            self.assertRefused(TwoFaced, unlike[:2], lambda: roll.hear(unlike), roll)

    def test_two_faced_with_one_that_waits(self):
        roll = heard(3, self.all[1:])
        for unlike in (deed(1, 1, (0, 0, 0), use("oak")), deed(1, 1, (1, 0, 0), use("tin")),
                       deed(1, 1, (9, 0, 0), use("oak")), deed(2, 1, (1, 2, 0), use("oak")),
                       deed(2, 1, (0, 2, 0), use("lime"))):
            self.assertRefused(TwoFaced, unlike[:2], lambda: roll.hear(unlike), roll)
        self.assertEqual(roll.hear(self.first), (marks_of(self.all), []))

    def test_two_faced_whether_its_note_is_closed_or_not(self):
        # 1.2 has seen 0.1, and this 2.1 has seen 1.2 without 0.1.
        roll = heard(3, self.all)
        loose = deed(2, 1, (0, 2, 0), use("lime"))
        self.assertRefused(TwoFaced, (2, 1), lambda: roll.hear(loose), roll)

    def test_no_deed_goes_ahead_of_two_faced(self):
        for roll in (heard(3, self.all), heard(3, self.all[1:])):
            for one in (deed(1, 1, (1, 0), use("oak")), deed(1, 1, (1, 1, 0), use("oak")),
                        deed(1, 1, (1, 0, 0), give(1)), deed(2, 1, (1, 2, -1), use("lime"))):
                self.assertRefused(NoDeed, one[:2], lambda: roll.hear(one), roll)

    def test_what_is_refused_is_not_known(self):
        roll = Roll(3)
        with self.assertRaises(NoDeed):
            roll.hear(deed(1, 1, (0, 0, 0), give(1)))
        self.assertEqual(roll.hear(deed(1, 1, (0, 0, 0), give(2))), ([(1, 1)], []))


class TestChanged(HandCase):
    def test_what_a_take_lets_fall(self):
        uses = [deed(1, 1, (1, 0), use("a")), deed(1, 2, (1, 1), use("b")),
                deed(1, 3, (1, 2), use("c", "door")), deed(1, 4, (1, 3), use("d"))]
        roll = heard(2, [deed(0, 1, (0, 0), give(1))] + uses)
        self.assertEqual(roll.text(), ["a", "b", "d"])
        # It has seen 1.1, and so lets only those behind it fall.
        late = deed(0, 2, (1, 1), take(1))
        self.assertEqual(roll.hear(late), ([(0, 2)], [(1, 2), (1, 4)]))
        self.assertEqual(roll.text(), ["a"])

    def test_what_came_is_not_among_what_changed(self):
        roll = heard(2, [deed(0, 1, (0, 0), give(1)), deed(1, 2, (1, 1), use("b"))])
        self.assertEqual(roll.hear(deed(1, 1, (1, 0), use("a"))), ([(1, 1), (1, 2)], []))
        roll = heard(2, [deed(0, 1, (0, 0), give(1)), deed(1, 1, (2, 0), use("b"))])
        self.assertEqual(roll.hear(deed(0, 2, (1, 0), take(1))), ([(0, 2), (1, 1)], []))
        self.assertIs(roll.stands((1, 1)), False)

    def house(self):
        """0 lets 1 lead and 2 use; 1 takes that from 2 beside what 2 writes."""
        return [deed(0, 1, (0, 0, 0), give(1, "lead")), deed(0, 2, (1, 0, 0), give(2)),
                deed(2, 1, (2, 0, 0), use("slate")), deed(1, 1, (2, 0, 0), take(2)),
                deed(0, 3, (2, 0, 0), take(1, "lead"))]

    def test_what_stands_again(self):
        lead, right, word, first, second = self.house()
        roll = heard(3, [lead, right, word])
        self.assertEqual(roll.hear(first), ([(1, 1)], [(2, 1)]))
        self.assertEqual(roll.text(), [])
        # The take of the lead lets the take fall, and so the use stand again.
        self.assertEqual(roll.hear(second), ([(0, 3)], [(1, 1), (2, 1)]))
        self.assertEqual(roll.text(), ["slate"])

    def test_what_fell_and_stands_again_at_once_did_not_change(self):
        # Both takes wait for 0.3: 1.1 alone would let 2.1 fall, but 0.4 lets 1.1 fall.
        lead, right, word = self.house()[:3]
        deeds = [lead, right, word, deed(0, 3, (2, 0, 0), use("y")),
                 deed(1, 1, (3, 0, 0), take(2)), deed(0, 4, (3, 0, 0), take(1, "lead"))]
        roll = heard(3, deeds[:3] + deeds[4:])
        self.assertEqual(roll.text(), ["slate"])
        self.assertEqual(roll.hear(deeds[3]), ([(0, 3), (0, 4), (1, 1)], []))
        self.assertEqual((roll.text(), roll.stands((1, 1))), (["y", "slate"], False))

    def test_changed_in_order(self):
        # By size, 2.1 stands ahead of 1.2; by author it would stand behind.
        deeds = [deed(0, 1, (0, 0, 0), give(1, "lead")), deed(1, 1, (1, 0, 0), give(2)),
                 deed(2, 1, (1, 1, 0), use("a")), deed(1, 2, (1, 1, 1), give(2, "use", "roof")),
                 deed(2, 2, (1, 2, 1), use("b"))]
        roll = heard(3, deeds)
        self.assertEqual(roll.text(), ["a", "b"])
        told = roll.hear(deed(0, 2, (1, 0, 0), take(1, "lead")))
        self.assertEqual(told, ([(0, 2)], [(1, 1), (2, 1), (1, 2), (2, 2)]))
        self.assertEqual(roll.text(), [])

    def test_a_take_that_bears_on_nothing_changes_nothing(self):
        deeds = [deed(0, 1, (0, 0), give(1)), deed(1, 1, (1, 0), use("a"))]
        for what in (take(1, "lead"), take(1, "use", "door"), use("b"), give(1)):
            roll = heard(2, deeds)
            self.assertEqual(roll.hear(deed(0, 2, (1, 0), what)), ([(0, 2)], []))
        self.assertEqual(heard(2, deeds).hear(deed(0, 2, (1, 0), take(1))), ([(0, 2)], [(1, 1)]))


class TestTold(HandCase):
    def test_deeds_by_size_then_author_then_number(self):
        deeds = [deed(0, 1, (0, 0, 0)), deed(2, 1, (0, 0, 0)), deed(0, 2, (1, 0, 0)),
                 deed(1, 1, (0, 0, 1)), deed(2, 2, (0, 0, 1)), deed(1, 2, (2, 1, 2)),
                 deed(2, 3, (2, 1, 2))]
        for order in (deeds, deeds[::-1], deeds[3:] + deeds[:3]):
            roll = heard(3, order)
            self.assertEqual(roll.deeds(), deeds)
            self.assertEqual(len(roll), 7)

    def test_waiting_by_marks(self):
        # By size the order would be the other way round.
        late = [deed(0, 2, (1, 9, 9)), deed(0, 3, (2, 9, 9)), deed(1, 2, (5, 1, 5)),
                deed(1, 10, (1, 9, 0)), deed(2, 2, (0, 0, 1))]
        for order in (late, late[::-1], late[2:] + late[:2]):
            roll = heard(3, order)
            self.assertEqual(roll.waiting(), late)
            self.assertEqual((roll.deeds(), len(roll)), ([], 0))

    def test_those_that_wait_are_not_among_the_deeds(self):
        roll = heard(2, [deed(0, 1, (0, 0)), deed(1, 3, (0, 2))])
        self.assertEqual(roll.deeds(), [deed(0, 1, (0, 0))])
        self.assertEqual(roll.waiting(), [deed(1, 3, (0, 2))])
        self.assertEqual(len(roll), 1)


class TestEqual(HandCase):
    def assertLike(self, one, other, like):
        self.assertIs(one == other, like)
        self.assertIs(other == one, like)
        self.assertIs(one != other, not like)
        self.assertIs(other != one, not like)

    def test_empty(self):
        self.assertLike(Roll(2), Roll(2), True)
        self.assertLike(Roll(2), Roll(3), False)

    def test_itself(self):
        roll = heard(2, [deed(0, 1, (0, 0))])
        self.assertLike(roll, roll, True)

    def test_the_same_deeds_in_another_order(self):
        deeds = [deed(0, 1, (0, 0)), deed(1, 1, (1, 0)), deed(1, 2, (1, 1))]
        self.assertLike(heard(2, deeds), heard(2, deeds[::-1]), True)
        self.assertLike(heard(2, deeds), heard(2, deeds[:2]), False)
        self.assertLike(Roll(2), heard(2, deeds[:1]), False)

    def test_those_that_wait_do_not_count(self):
        first, late = deed(0, 1, (0, 0)), deed(1, 3, (0, 2))
        self.assertLike(heard(2, [first]), heard(2, [late, first]), True)
        self.assertLike(heard(2, [deed(1, 2, (0, 1))]), heard(2, [late]), True)

    def test_one_that_waits_is_not_one_that_came(self):
        deeds = [deed(0, 1, (0, 0)), deed(1, 1, (1, 0))]
        self.assertLike(heard(2, deeds), heard(2, deeds[1:]), False)

    def test_unlike_deeds_of_one_mark(self):
        for other in (deed(0, 1, (0, 0), use("b")), deed(0, 1, (0, 0), give(1))):
            self.assertLike(heard(2, [deed(0, 1, (0, 0), use("a"))]), heard(2, [other]), False)

    def test_as_many_deeds_of_other_marks(self):
        self.assertLike(heard(2, [deed(0, 1, (0, 0))]), heard(2, [deed(1, 1, (0, 0))]), False)

    def test_they_are_told_by_what_is_in_them_now(self):
        one, other = Roll(2), Roll(2)
        one.hear(deed(0, 1, (0, 0)))
        self.assertLike(one, other, False)
        other.hear(deed(0, 1, (0, 0)))
        self.assertLike(one, other, True)


class TestNote(HandCase):
    def setUp(self):
        self.deeds = [deed(0, 1, (0, 0, 0)), deed(0, 2, (1, 0, 0)), deed(2, 1, (1, 0, 0))]

    def test_of_each_member(self):
        roll = heard(3, self.deeds)
        for member in range(3):
            self.assertEqual(roll.note(member), (2, 0, 1))
            self.assertEqual(roll.note(member=member), (2, 0, 1))
            self.assertIs(type(roll.note(member)), tuple)

    def test_as_deeds_come(self):
        roll = Roll(3)
        for one, note in zip(self.deeds, ((1, 0, 0), (2, 0, 0), (2, 0, 1))):
            roll.hear(one)
            self.assertEqual(roll.note(1), note)

    def test_those_that_wait_do_not_count(self):
        roll = heard(3, self.deeds + [deed(0, 4, (3, 0, 0)), deed(1, 1, (2, 0, 2))])
        self.assertEqual(roll.note(1), (2, 0, 1))

    def test_of_no_member(self):
        roll = heard(3, self.deeds)
        for member in (3, 4, -1, -3, 999999999):
            self.assertRefused(NoMember, member, lambda: roll.note(member), roll)
            self.assertRefused(NoMember, member, lambda: roll.note(member=member), roll)


class TestNextDeed(HandCase):
    def setUp(self):
        self.roll = heard(3, [deed(0, 1, (0, 0, 0)), deed(0, 2, (1, 0, 0)),
                              deed(2, 1, (1, 0, 0))])

    def test_of_each_member(self):
        for member, number in ((0, 3), (1, 1), (2, 2)):
            told = self.roll.next_deed(member, use("oak"))
            self.assertEqual(told, (member, number, (2, 0, 1), ("use", "roof", "oak")))
            self.assertEqual([type(part) for part in told], [int, int, tuple, tuple])

    def test_of_each_what(self):
        for what in (give(1), give(2, "lead", "door"), take(2), use("a")):
            self.assertEqual(self.roll.next_deed(0, what), (0, 3, (2, 0, 1), what))
            self.assertEqual(self.roll.next_deed(what=what, member=0), (0, 3, (2, 0, 1), what))

    def test_it_is_not_heard(self):
        before = everything(self.roll)
        for member in range(3):
            self.roll.next_deed(member, use("oak"))
            self.assertEqual(everything(self.roll), before)

    def test_it_comes_when_it_is_heard(self):
        for member in (0, 1, 2, 1):
            one = self.roll.next_deed(member, use("oak"))
            self.assertEqual(self.roll.hear(one), ([one[:2]], []))
            self.assertEqual(self.roll.deeds()[-1], one)

    def test_one_of_that_mark_may_wait(self):
        late = deed(1, 1, (2, 0, 2), use("tin"))
        self.roll.hear(late)
        one = self.roll.next_deed(1, use("tin"))
        self.assertEqual(one, (1, 1, (2, 0, 1), use("tin")))
        self.assertRefused(TwoFaced, (1, 1), lambda: self.roll.hear(one), self.roll)

    def test_number_behind_the_last_one_in_the_roll(self):
        self.roll.hear(deed(2, 7, (1, 0, 6)))
        self.assertEqual(self.roll.next_deed(2, use())[1], 2)

    def test_no_member(self):
        for member in (3, -1, -2, 999999999):
            for what in (use(), give(0), give(9)):
                self.assertRefused(NoMember, member,
                                   lambda: self.roll.next_deed(member, what), self.roll)

    def test_no_deed(self):
        for word in (give, take):
            for member, number, other in ((0, 3, 0), (0, 3, 3), (0, 3, -1), (1, 1, 0), (1, 1, 1),
                                          (2, 2, 1), (2, 2, 2), (2, 2, 3)):
                self.assertRefused(NoDeed, (member, number),
                                   lambda: self.roll.next_deed(member, word(other)), self.roll)
                self.assertRefused(
                    NoDeed, (member, number),
                    lambda: self.roll.next_deed(member=member, what=word(other)), self.roll)

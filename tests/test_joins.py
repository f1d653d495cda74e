"""Promise [9]: rolls joined."""

from firmroll.errors import NoMembers, TwoFaced
from firmroll.rolls import Roll
from tests.hands import HandCase, everything, give, heard, marks_of, standing, take, use
from tests.houses import busy, deed, grown, shuffled


class TestJoin(HandCase):
    def setUp(self):
        self.first = deed(0, 1, (0, 0, 0), give(1))
        self.second = deed(1, 1, (1, 0, 0), use("oak"))
        self.third = deed(2, 1, (1, 1, 0), use("tin"))
        self.fourth = deed(0, 2, (1, 0, 0), take(1))
        self.all = [self.first, self.fourth, self.second, self.third]

    def test_all_of_the_other_one(self):
        roll, other = Roll(3), heard(3, self.all)
        told = roll.join(other)
        self.assertEqual(told, (marks_of(self.all), []))
        self.assertIs(type(told), tuple)
        self.assertEqual([type(part) for part in told], [list, list])
        self.assertEqual(roll.deeds(), self.all)
        self.assertTrue(roll == other)

    def test_by_name(self):
        roll = Roll(3)
        self.assertEqual(roll.join(other=heard(3, [self.first])), ([(0, 1)], []))

    def test_came_and_changed(self):
        roll = heard(3, [self.first, self.second])
        self.assertEqual(roll.text(), ["oak"])
        told = roll.join(heard(3, [self.first, self.fourth]))
        self.assertEqual(told, ([(0, 2)], [(1, 1)]))
        self.assertEqual(roll.text(), [])

    def test_what_came_by_it_is_not_among_what_changed(self):
        roll = heard(3, [self.first])
        self.assertEqual(roll.join(heard(3, self.all)), ([(0, 2), (1, 1), (2, 1)], []))
        self.assertIs(roll.stands((1, 1)), False)

    def test_what_fell_and_stands_again_in_it_did_not_change(self):
        deeds = [deed(0, 1, (0, 0, 0), give(1, "lead")), deed(0, 2, (1, 0, 0), give(2)),
                 deed(2, 1, (2, 0, 0), use("slate"))]
        more = [deed(1, 1, (2, 0, 0), take(2)), deed(0, 3, (2, 0, 0), take(1, "lead"))]
        roll = heard(3, deeds)
        # Heard one by one, 1.1 lets 2.1 fall, and 0.3 lets it stand again.
        self.assertEqual(roll.join(heard(3, deeds[:2] + more)), ([(0, 3), (1, 1)], []))
        roll = heard(3, deeds + more[:1])
        self.assertEqual(roll.join(heard(3, deeds[:2] + more)), ([(0, 3)], [(1, 1), (2, 1)]))

    def test_those_that_wait_are_heard_too(self):
        roll = heard(3, [self.first])
        other = heard(3, [self.third, self.second])
        self.assertEqual((len(other), len(other.waiting())), (0, 2))
        self.assertEqual(roll.join(other), ([(1, 1), (2, 1)], []))
        self.assertEqual((len(roll), roll.waiting()), (3, []))

    def test_those_that_wait_may_wait_on(self):
        roll = heard(3, [self.fourth])
        self.assertEqual(roll.join(heard(3, [self.third])), ([], []))
        self.assertEqual(roll.waiting(), [self.fourth, self.third])
        self.assertEqual(len(roll), 0)

    def test_what_it_waited_for_may_come_by_it(self):
        roll = heard(3, [self.third, self.fourth])
        self.assertEqual(roll.join(heard(3, [self.first])), ([(0, 1), (0, 2)], []))
        self.assertEqual(roll.waiting(), [self.third])
        self.assertEqual(roll.join(heard(3, [self.second])), ([(1, 1), (2, 1)], []))
        self.assertEqual(roll.waiting(), [])

    def test_what_both_have(self):
        roll, other = heard(3, self.all), heard(3, self.all[::-1])
        before = everything(roll)
        self.assertEqual(roll.join(other), ([], []))
        self.assertEqual(everything(roll), before)
        self.assertEqual(roll.join(heard(3, [self.second, self.third])), ([], []))
        self.assertEqual(everything(roll), before)

    def test_nothing(self):
        roll = heard(3, self.all[1:])
        before = everything(roll)
        self.assertEqual(roll.join(Roll(3)), ([], []))
        self.assertEqual(everything(roll), before)

    def test_itself(self):
        for deeds in (self.all, self.all[1:], self.all[:1] + self.all[3:]):
            roll = heard(3, deeds)
            before = everything(roll)
            self.assertEqual(roll.join(roll), ([], []))
            self.assertEqual(everything(roll), before)

    def test_the_other_one_stays_as_it_was(self):
        roll, other = heard(3, self.all[:2]), heard(3, self.all[::2])
        self.assertEqual(len(other), 2)
        before = everything(other)
        roll.join(other)
        self.assertEqual(everything(other), before)
        roll.hear(deed(2, 1, (0, 0, 0), use("lime")))
        self.assertEqual(everything(other), before)
        after = everything(roll)
        other.hear(self.fourth)
        self.assertEqual(everything(roll), after)

    def test_of_another_number_of_members(self):
        roll = heard(3, self.all)
        for members in (1, 2, 4, 6):
            other = heard(members, [deed(0, 1, (0,) * members, use("z"))])
            self.assertRefused(NoMembers, members, lambda: roll.join(other), roll, other)
            self.assertRefused(NoMembers, members, lambda: roll.join(other=other), roll, other)
        self.assertRefused(NoMembers, 3, lambda: Roll(2).join(roll), roll)
        self.assertRefused(NoMembers, 4, lambda: roll.join(Roll(4)), roll)


class TestRefused(HandCase):
    def assertTwoFaced(self, own, deeds, others):
        roll, other = heard(3, deeds), heard(3, others)
        self.assertRefused(TwoFaced, own, lambda: roll.join(other), roll, other)

    def setUp(self):
        self.good = [deed(0, 1, (0, 0, 0), give(1)), deed(1, 1, (1, 0, 0), use("oak"))]

    def test_two_faced_in_both_rolls(self):
        for unlike in (deed(1, 1, (1, 0, 0), use("tin")), deed(1, 1, (0, 0, 0), use("oak"))):
            self.assertTwoFaced((1, 1), self.good, [self.good[0], unlike])

    def test_two_faced_where_one_waits_or_both(self):
        unlike = deed(1, 1, (1, 0, 0), use("tin"))
        self.assertTwoFaced((1, 1), self.good, [unlike])
        self.assertTwoFaced((1, 1), self.good[1:], [self.good[0], unlike])
        self.assertTwoFaced((1, 1), self.good[1:], [unlike])
        loose = deed(1, 1, (9, 0, 4), use("oak"))
        self.assertTwoFaced((1, 1), self.good, [loose])
        self.assertTwoFaced((1, 1), self.good[1:], [loose])

    def test_none_of_it_is_heard(self):
        deeds = [deed(0, 1, (0, 0, 0), give(1)), deed(2, 1, (0, 0, 0), use("a")),
                 deed(1, 1, (1, 0, 0), use("tin")), deed(0, 3, (2, 0, 0), use("b"))]
        roll, other = heard(3, self.good), heard(3, deeds)
        self.assertRefused(TwoFaced, (1, 1), lambda: roll.join(other), roll, other)
        self.assertEqual(roll.deeds(), self.good)
        self.assertEqual(roll.waiting(), [])
        # What was refused with it may still be heard alone.
        self.assertEqual(roll.hear(deed(2, 1, (0, 0, 0), use("z"))), ([(2, 1)], []))

    def test_the_first_one_by_the_others_order(self):
        # By size 2.1 goes ahead of 1.2, and that of 0.3; by marks it is the other way.
        mine = [deed(2, 1, (0, 0, 0), use("a")), deed(1, 1, (0, 0, 0)), deed(0, 1, (0, 0, 0)),
                deed(1, 2, (0, 1, 0), use("a")), deed(0, 2, (1, 0, 0)),
                deed(0, 3, (2, 0, 0), use("a"))]
        theirs = [deed(one[0], one[1], one[2], use("b")) if one[3][2] == "a" else one
                  for one in mine]
        self.assertTwoFaced((2, 1), mine, theirs)
        self.assertTwoFaced((2, 1), mine, theirs[::-1])
        self.assertTwoFaced((1, 2), mine, [mine[0]] + theirs[1:])
        self.assertTwoFaced((0, 3), mine, mine[:4] + theirs[4:])

    def test_the_order_is_the_others_own(self):
        # Here 0.1 is of size 2 and 2.1 of size 0; there it is the other way round.
        mine = [deed(1, 1, (0, 0, 0)), deed(1, 2, (0, 1, 0)), deed(0, 1, (0, 2, 0)),
                deed(2, 1, (0, 0, 0))]
        theirs = [deed(1, 1, (0, 0, 0)), deed(1, 2, (0, 1, 0)), deed(2, 1, (0, 2, 0)),
                  deed(0, 1, (0, 0, 0))]
        self.assertTwoFaced((0, 1), mine, theirs)
        self.assertTwoFaced((2, 1), theirs, mine)

    def test_those_that_wait_go_behind_by_their_marks(self):
        mine = [deed(0, 2, (1, 0, 0), use("a")), deed(1, 1, (3, 0, 0), use("a")),
                deed(1, 2, (2, 1, 0), use("a")), deed(2, 1, (0, 0, 0), use("a"))]
        theirs = [deed(one[0], one[1], one[2], use("b")) for one in mine]
        # 2.1 is in their roll; all others wait, 1.1 of a greater size than 1.2's.
        self.assertTwoFaced((2, 1), mine, theirs)
        self.assertTwoFaced((0, 2), mine, theirs[:3])
        self.assertTwoFaced((1, 1), mine, theirs[1:3])
        late = [deed(1, 1, (9, 0, 0), use("b")), deed(1, 2, (0, 1, 0), use("b"))]
        self.assertTwoFaced((1, 1), mine, late)
        self.assertTwoFaced((1, 2), mine, late[1:])

    def test_members_go_ahead_of_two_faced(self):
        roll = heard(3, self.good)
        other = heard(2, [deed(0, 1, (0, 0), use("tin"))])
        self.assertRefused(NoMembers, 2, lambda: roll.join(other), roll, other)


class TestMany(HandCase):
    def test_parts_joined_are_the_whole(self):
        for members in (1, 2, 3, 6):
            for world in (grown(members, 60, members + 40), busy(members, 60, members + 40)):
                whole = everything(heard(members, world))
                for seed in range(3):
                    mixed = shuffled(world, seed)
                    parts = [heard(members, mixed[at::3]) for at in range(3)]
                    for part in shuffled(parts, seed):
                        self.assertChanges(parts[0], lambda: parts[0].join(part))
                    self.assertEqual(everything(parts[0]), whole)

    def test_joined_is_as_heard_one_by_one(self):
        for members in (2, 3, 6):
            world = busy(members, 80, members + 50)
            for seed in range(3):
                mixed = shuffled(world, seed)
                one, other = heard(members, mixed[:50]), heard(members, mixed[30:])
                third = heard(members, mixed[:50])
                before = standing(one)
                came, changed = self.assertChanges(one, lambda: one.join(other))
                told = []
                for single in other.deeds() + other.waiting():
                    told += third.hear(single)[0]
                self.assertEqual(sorted(told), sorted(came))
                self.assertEqual(everything(one), everything(third))
                self.assertTrue(set(changed) <= set(before))

    def test_either_way_round(self):
        for members in (2, 4, 6):
            world = busy(members, 90, members + 60)
            for seed in range(3):
                mixed = shuffled(world, seed)
                one, other = heard(members, mixed[:60]), heard(members, mixed[40:])
                third = heard(members, mixed[:60])
                one.join(other)
                other.join(third)
                self.assertEqual(everything(one), everything(other))

"""Promises [13] and [14]: what is settled, and for whom the rest waits."""

from tests.hands import HandCase, give, heard, marks_of, standing, take, use
from tests.houses import busy, deed, grown, shuffled
from tests.plain import Plain


class SettledCase(HandCase):
    def assertWaits(self, members, deeds, waits):
        """Each mark of the waits waits for just these; all others are settled."""
        for order in (deeds, deeds[::-1]):
            roll = heard(members, order)
            self.assertEqual(len(roll), len(deeds))
            for own in marks_of(deeds):
                told = roll.waits_for(own)
                self.assertEqual(told, waits.get(own, []), own)
                self.assertIs(type(told), list)
                self.assertEqual(roll.waits_for(mark=own), told)
                self.assertIs(roll.is_settled(own), own not in waits, own)
                self.assertIs(roll.is_settled(mark=own), own not in waits, own)


class TestSettled(SettledCase):
    def test_of_member_0(self):
        deeds = [deed(0, 1, (0, 0), give(1)), deed(0, 2, (1, 0), take(1)),
                 deed(0, 3, (2, 0), use())]
        self.assertWaits(2, deeds, {})
        self.assertWaits(1, [deed(0, 1, (0,))], {})

    def test_of_another_one_that_no_senior_has_seen(self):
        self.assertWaits(2, [deed(1, 1, (0, 0))], {(1, 1): [0]})
        self.assertWaits(3, [deed(1, 1, (0, 0, 0))], {(1, 1): [0]})
        self.assertWaits(3, [deed(2, 1, (0, 0, 0))], {(2, 1): [0, 1]})
        self.assertWaits(6, [deed(5, 1, (0,) * 6)], {(5, 1): [0, 1, 2, 3, 4]})

    def test_seen_by_each_senior(self):
        first = deed(2, 1, (0, 0, 0, 0))
        by_0, by_1 = deed(0, 1, (0, 0, 1, 0)), deed(1, 1, (0, 0, 1, 0))
        by_3 = deed(3, 1, (0, 0, 1, 0))
        # 1.1 itself waits for 0.
        self.assertWaits(4, [first, by_0], {(2, 1): [1]})
        self.assertWaits(4, [first, by_1], {(2, 1): [0], (1, 1): [0]})
        self.assertWaits(4, [first, by_0, by_1], {(1, 1): [0]})
        self.assertWaits(4, [first, by_0, by_3], {(2, 1): [1], (3, 1): [0, 1, 2]})

    def test_juniors_do_not_count(self):
        deeds = [deed(1, 1, (0, 0, 0)), deed(0, 1, (0, 1, 0))]
        self.assertWaits(3, deeds, {})

    def test_one_that_has_not_seen_it(self):
        deeds = [deed(1, 1, (0, 0)), deed(0, 1, (0, 0)), deed(0, 2, (1, 0)),
                 deed(1, 2, (0, 1)), deed(0, 3, (2, 1))]
        self.assertWaits(2, deeds[:3], {(1, 1): [0]})
        # 0.3 has seen 1.1 and not 1.2.
        self.assertWaits(2, deeds, {(1, 2): [0]})

    def test_any_deed_that_has_seen_it(self):
        deeds = [deed(1, 1, (0, 0)), deed(0, 1, (0, 1)), deed(0, 2, (1, 1)),
                 deed(0, 3, (2, 1), give(1))]
        self.assertWaits(2, deeds, {})

    def test_whether_it_stands_or_not(self):
        deeds = [deed(0, 1, (0, 0), give(1)), deed(1, 1, (1, 0), use("a")),
                 deed(1, 2, (1, 1), use("b", "door")), deed(0, 2, (1, 2))]
        roll = heard(2, deeds)
        self.assertEqual((roll.stands((1, 1)), roll.stands((1, 2))), (True, False))
        self.assertWaits(2, deeds, {})
        self.assertWaits(2, deeds[:3], {(1, 1): [0], (1, 2): [0]})

    def test_what_waits_for_others_has_seen_nothing_yet(self):
        roll = heard(2, [deed(1, 1, (0, 0)), deed(0, 2, (1, 1))])
        self.assertEqual(roll.waits_for((1, 1)), [0])
        roll.hear(deed(0, 1, (0, 0)))
        self.assertEqual(roll.waits_for((1, 1)), [])


class TestHangsOn(SettledCase):
    def test_on_a_take_that_has_not_seen_it(self):
        deeds = [deed(0, 1, (0, 0, 0), give(1, "lead")), deed(2, 1, (1, 0, 0), use()),
                 deed(1, 1, (1, 0, 0), take(2)), deed(1, 2, (1, 1, 1), use()),
                 deed(0, 2, (1, 0, 1), use())]
        # Both seniors have seen 2.1, but 0 has not seen the take that bears on it.
        self.assertWaits(3, deeds, {(2, 1): [0], (1, 1): [0], (1, 2): [0]})
        self.assertWaits(3, deeds + [deed(0, 3, (2, 1, 1), use())], {(1, 2): [0]})

    def test_not_on_one_that_has_seen_it(self):
        deeds = [deed(0, 1, (0, 0, 0), give(1, "lead")), deed(2, 1, (1, 0, 0), use()),
                 deed(1, 1, (1, 0, 1), take(2)), deed(0, 2, (1, 0, 1), use())]
        self.assertWaits(3, deeds, {(1, 1): [0]})

    def test_not_on_takes_of_something_else(self):
        for what, waits in ((take(2, "lead"), [(1, 1)]), (take(2, "use", "door"), [(1, 1)]),
                            (give(2), [(1, 1)]), (use(), [(1, 1)]), (take(2), [(1, 1), (2, 1)])):
            deeds = [deed(0, 1, (0, 0, 0), give(1, "lead")), deed(2, 1, (1, 0, 0), use()),
                     deed(1, 1, (1, 0, 0), what), deed(0, 2, (1, 0, 1), use()),
                     deed(1, 2, (1, 1, 1), use())]
            self.assertWaits(3, deeds, {own: [0] for own in waits + [(1, 2)]})

    def test_on_takes_that_do_not_stand_too(self):
        deeds = [deed(2, 1, (0, 0, 0), use()), deed(1, 1, (0, 0, 0), take(2)),
                 deed(0, 1, (0, 0, 1), use()), deed(1, 2, (0, 1, 1), use())]
        self.assertWaits(3, deeds, {(2, 1): [0], (1, 1): [0], (1, 2): [0]})

    def test_on_takes_that_it_has_seen(self):
        # All of 3.1's seniors have seen it, and so the take 2.1; 0 has not seen 1.1.
        deeds = [deed(2, 1, (0, 0, 0, 0), take(3)), deed(3, 1, (0, 0, 1, 0), use()),
                 deed(1, 1, (0, 0, 0, 0), take(2, "lead")), deed(0, 1, (0, 0, 1, 1)),
                 deed(1, 2, (0, 1, 1, 1)), deed(2, 2, (0, 0, 1, 1))]
        waits = {(3, 1): [0], (2, 1): [0], (1, 1): [0], (1, 2): [0], (2, 2): [0, 1]}
        self.assertWaits(4, deeds, waits)
        self.assertWaits(4, deeds[:2] + deeds[3:4] + [deed(1, 1, (0, 0, 1, 1)), deeds[5]],
                         {(1, 1): [0], (2, 2): [0, 1]})

    def test_on_takes_that_each_give_has_seen(self):
        # The take 2.1 bears on nothing, for the give 0.1 has seen it; it is hung on still.
        deeds = [deed(2, 1, (0, 0, 0, 0), take(3)), deed(0, 1, (0, 0, 1, 0), give(3)),
                 deed(3, 1, (1, 0, 1, 0), use()), deed(1, 1, (0, 0, 0, 0), take(2, "lead")),
                 deed(0, 2, (1, 0, 1, 1)), deed(1, 2, (1, 1, 1, 1)), deed(2, 2, (1, 0, 1, 1))]
        waits = {(3, 1): [0], (2, 1): [0], (1, 1): [0], (1, 2): [0], (2, 2): [0, 1]}
        self.assertWaits(4, deeds, waits)
        self.assertWaits(4, deeds + [deed(0, 3, (2, 1, 1, 1))],
                         {(1, 2): [0], (2, 2): [0, 1]})

    def test_on_what_a_give_hangs_on(self):
        # 3.1 was given its right by 2.1; 1.1 takes the lead from 2 beside that.
        deeds = [deed(0, 1, (0,) * 4, give(2, "lead")), deed(2, 1, (1, 0, 0, 0), give(3)),
                 deed(3, 1, (1, 0, 1, 0), use()), deed(1, 1, (0, 0, 0, 0), take(2, "lead")),
                 deed(1, 2, (1, 1, 1, 1), use()), deed(2, 2, (1, 0, 1, 1), use()),
                 deed(0, 2, (1, 0, 1, 1), use())]
        waits = {(3, 1): [0], (2, 1): [0], (1, 1): [0], (1, 2): [0], (2, 2): [0, 1]}
        self.assertWaits(4, deeds, waits)
        # Once 0 has seen that take, all of it is settled.
        self.assertWaits(4, deeds + [deed(0, 3, (2, 1, 1, 1), use())],
                         {(1, 2): [0], (2, 2): [0, 1]})

    def test_on_what_a_take_hangs_on_and_so_on(self):
        # 4.1 hangs on the take 3.1, that on the take 2.1 of its lead, that on 1.1's.
        zero = (0,) * 5
        deeds = [deed(4, 1, zero, use()), deed(3, 1, zero, take(4)),
                 deed(2, 1, zero, take(3, "lead")), deed(1, 1, zero, take(2, "lead"))]
        self.assertWaits(5, deeds, {(4, 1): [0, 1, 2, 3], (3, 1): [0, 1, 2], (2, 1): [0, 1],
                                    (1, 1): [0]})
        all_seen = [deed(3, 2, (0, 0, 0, 1, 1)), deed(2, 2, (0, 0, 1, 1, 1)),
                    deed(1, 2, (0, 1, 1, 1, 1)), deed(0, 1, (0, 0, 1, 1, 1))]
        # Each has seen what is below it, and 0 all but 1.1.
        self.assertWaits(5, deeds + all_seen, {
            (4, 1): [0], (3, 1): [0], (2, 1): [0], (1, 1): [0],
            (3, 2): [0, 1, 2], (2, 2): [0, 1], (1, 2): [0]})
        last = deed(0, 2, (1, 1, 1, 1, 1))
        self.assertWaits(5, deeds + all_seen + [last], {
            (3, 2): [0, 1, 2], (2, 2): [0, 1], (1, 2): [0]})

    def test_rising_and_each_once(self):
        zero = (0,) * 4
        deeds = [deed(3, 1, zero, use()), deed(2, 1, zero, take(3)), deed(2, 2, (0, 0, 1, 0),
                                                                          take(3)),
                 deed(1, 1, zero, take(3)), deed(0, 1, (0, 0, 0, 1))]
        self.assertWaits(4, deeds, {(3, 1): [0, 1, 2], (2, 1): [0, 1], (2, 2): [0, 1],
                                    (1, 1): [0]})

    def test_a_give_that_it_has_not_seen_is_nothing_to_it(self):
        # All of 3.1's seniors have seen it; the give 2.2 of what it needs waits for 0 and 1.
        deeds = [deed(2, 1, (0, 0, 0, 0)), deed(3, 1, (0, 0, 1, 0), use()),
                 deed(2, 2, (0, 0, 1, 1), give(3)), deed(1, 1, (0, 0, 1, 1)),
                 deed(0, 1, (0, 0, 1, 1))]
        self.assertWaits(4, deeds, {(2, 2): [0, 1], (1, 1): [0]})


def with_uses(roll, members, world):
    """The world's hand behind a further use of each of these, all beside one another."""
    more = [roll.next_deed(member, use("last")) for member in members]
    return heard(roll.members(), world + more)


class TestMany(HandCase):
    def worlds(self):
        for members in (2, 3, 4, 6):
            for seed in range(4):
                yield members, busy(members, 50, seed * 11 + members)
        yield 6, grown(6, 60, 5)

    def test_as_the_words_tell(self):
        for members, world in self.worlds():
            for part in (world, shuffled(world, 4)[:40]):
                roll, plain = heard(members, part), Plain(members, part)
                for one in plain.deeds:
                    self.assertEqual(roll.waits_for(one[:2]), plain.waits_for(one))
                    self.assertIs(roll.is_settled(one[:2]), plain.settled(one))

    def test_none_are_told_just_where_it_is_settled(self):
        for members, world in self.worlds():
            roll = heard(members, world)
            for own in marks_of(world):
                self.assertIs(roll.is_settled(own), roll.waits_for(own) == [])

    def test_told_are_just_those_whose_deed_is_wanted(self):
        for members, world in self.worlds():
            roll = heard(members, world)
            hands = {}
            for own in marks_of(world):
                waits = roll.waits_for(own)
                self.assertEqual(waits, sorted(set(waits)))
                wanted = [waits] + [[other for other in waits if other != left]
                                    for left in waits]
                for at, some in enumerate(wanted):
                    if tuple(some) not in hands:
                        hands[tuple(some)] = with_uses(roll, some, world)
                    self.assertIs(hands[tuple(some)].is_settled(own), at == 0, (own, some))

    def test_with_all_but_one_wanted_it_is_not_settled(self):
        for members, world in self.worlds():
            roll = heard(members, world)
            for left in range(members):
                others = [other for other in range(members) if other != left]
                hand = with_uses(roll, others, world)
                for own in marks_of(world):
                    if left in roll.waits_for(own):
                        self.assertIs(hand.is_settled(own), False)
                        self.assertIn(left, hand.waits_for(own))
                    else:
                        self.assertIs(hand.is_settled(own), True)

    def test_what_is_settled_stays_so_and_stands_or_not_as_it_did(self):
        for members, world in self.worlds():
            for seed in range(3):
                roll = heard(members, [])
                settled = {}
                order = world if seed == 0 else shuffled(world, seed)
                for one in order:
                    roll.hear(one)
                    for own, stands in settled.items():
                        self.assertIs(roll.is_settled(own), True)
                        self.assertIs(roll.stands(own), stands)
                    settled = {own: stands for own, stands in standing(roll).items()
                               if roll.is_settled(own)}

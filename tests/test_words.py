"""Promises [15] and [16]: the text, what of it is firm, and for whom it waits."""

from firmroll.errors import NoMark, NoUse
from firmroll.rolls import Roll
from tests.hands import HandCase, give, heard, marks_of, take, use
from tests.houses import busy, deed, grown, shuffled
from tests.plain import Plain


class WordCase(HandCase):
    def assertFirm(self, members, deeds, firm, firm_text, text=None):
        for order in (deeds, deeds[::-1]):
            roll = heard(members, order)
            self.assertEqual(len(roll), len(deeds))
            self.assertEqual(roll.firm(), firm)
            self.assertEqual(roll.firm_text(), firm_text)
            if text is not None:
                self.assertEqual(roll.text(), text)
            for one in roll.deeds():
                if one[3][0] == "use":
                    self.assertIs(roll.firm_waits(one[:2]) == [], one[:2] in firm, one)

    def assertFirmWaits(self, members, deeds, waits):
        for order in (deeds, deeds[::-1]):
            roll = heard(members, order)
            for own, expected in waits.items():
                told = roll.firm_waits(own)
                self.assertEqual(told, expected, own)
                self.assertIs(type(told), list)
                self.assertEqual(roll.firm_waits(mark=own), expected)


class TestText(WordCase):
    def test_of_the_uses_that_stand_in_order(self):
        # By size: 0.1 and 1.1 of none, 0.2 of one, 1.2 of two, 1.3 of three.
        deeds = [deed(0, 1, (0, 0), give(1)), deed(1, 1, (0, 0), use("no")),
                 deed(0, 2, (1, 0), use("zinc")), deed(1, 2, (1, 1), use("oak")),
                 deed(1, 3, (1, 2), use("tin", "door")), deed(0, 3, (2, 1), use("ash"))]
        for order in (deeds, deeds[::-1]):
            self.assertEqual(heard(2, order).text(), ["zinc", "oak", "ash"])

    def test_beside_one_another_by_author(self):
        deeds = [deed(0, 1, (0, 0, 0), give(1)), deed(0, 2, (1, 0, 0), give(2)),
                 deed(2, 1, (2, 0, 0), use("c")), deed(1, 1, (2, 0, 0), use("b")),
                 deed(0, 3, (2, 0, 0), use("a"))]
        self.assertEqual(heard(3, deeds).text(), ["a", "b", "c"])

    def test_words_may_come_twice(self):
        deeds = [deed(0, 1, (0,), use("a")), deed(0, 2, (1,), use("a", "door")),
                 deed(0, 3, (2,), use("a"))]
        self.assertEqual(heard(1, deeds).text(), ["a", "a", "a"])

    def test_what_waits_is_not_in_it(self):
        self.assertEqual(heard(1, [deed(0, 2, (1,), use("a"))]).text(), [])


class TestFirm(WordCase):
    def test_of_one_member(self):
        deeds = [deed(0, 1, (0,), use("a")), deed(0, 2, (1,), use("b"))]
        self.assertFirm(1, deeds[:1], [(0, 1)], ["a"], ["a"])
        self.assertFirm(1, deeds, [(0, 1), (0, 2)], ["a", "b"], ["a", "b"])

    def test_of_no_uses(self):
        deeds = [deed(0, 1, (0, 0), give(1)), deed(0, 2, (1, 0), take(1)), deed(1, 1, (0, 0))]
        self.assertFirm(2, deeds[:2], [], [], [])
        self.assertFirm(2, [], [], [], [])

    def test_nothing_as_long_as_some_member_has_done_nothing(self):
        uses = [deed(0, 1, (0, 0, 0), use("a")), deed(0, 2, (1, 0, 0), use("b")),
                deed(1, 1, (2, 0, 0)), deed(0, 3, (2, 1, 0), use("c"))]
        self.assertFirm(3, uses, [], [], ["a", "b", "c"])
        # 2 has seen nothing, which is as many as 0.1.
        self.assertFirm(3, uses + [deed(2, 1, (0, 0, 0), use("z"))],
                        [(0, 1)], ["a"])

    def test_as_many_as_it_or_more(self):
        deeds = [deed(0, 1, (0, 0), use("a")), deed(0, 2, (1, 0), use("b")),
                 deed(0, 3, (2, 0), use("c"))]
        for number, firm in ((0, 1), (1, 2), (2, 3), (3, 3)):
            last = deed(1, 1, (number, 0), use("z", "door"))
            roll = heard(2, deeds + [last])
            self.assertEqual([own for own in roll.firm() if own[0] == 0],
                             [(0, at) for at in range(1, firm + 1)])
            self.assertEqual(roll.firm_text(), ["a", "b", "c"][:firm])
            self.assertEqual(roll.text(), ["a", "b", "c"])

    def test_gives_and_takes_count_too(self):
        deeds = [deed(0, 1, (0, 0, 0), use("a")), deed(0, 2, (1, 0, 0), use("b")),
                 deed(2, 1, (1, 0, 0), use("z", "door"))]
        for what in (give(2), take(2, "lead")):
            self.assertFirm(3, deeds + [deed(1, 1, (1, 0, 0), what)], [(0, 1), (0, 2)],
                            ["a", "b"])
            self.assertFirm(3, deeds + [deed(1, 1, (0, 0, 0), what)], [(0, 1)], ["a"])

    def test_as_many_of_whomever(self):
        # 1.1 has not seen 0.2, but as many as it.
        deeds = [deed(0, 1, (0, 0, 0), use("a")), deed(0, 2, (1, 0, 0), use("b")),
                 deed(2, 1, (0, 0, 0), use("y")), deed(1, 1, (0, 0, 1), use("z")),
                 deed(0, 3, (2, 0, 1), use("c")), deed(2, 2, (1, 0, 1), use("x"))]
        roll = heard(3, deeds)
        # 2.1 is settled by 0.3 and 1.1; 1.1 itself waits for 0, and holds up all behind it.
        self.assertEqual(roll.firm(), [(0, 1), (2, 1), (0, 2)])
        self.assertEqual(roll.firm_text(), ["a", "b"])

    def test_a_use_that_does_not_stand_is_firm_too(self):
        deeds = [deed(1, 1, (0, 0), use("no")), deed(0, 1, (0, 1), use("a")),
                 deed(1, 2, (1, 1), use("no"))]
        self.assertFirm(2, deeds, [(1, 1), (0, 1)], ["a"], ["a"])

    def test_a_use_ahead_that_is_not_settled(self):
        deeds = [deed(1, 1, (0, 0), use("no")), deed(0, 1, (0, 0), use("a")),
                 deed(0, 2, (1, 0), use("b")), deed(1, 2, (2, 1), use("no"))]
        # 0.1 stands ahead of 1.1 by its author, 0.2 behind it.
        self.assertFirm(2, deeds, [(0, 1)], ["a"], ["a", "b"])
        self.assertFirm(2, deeds + [deed(0, 3, (2, 1), use("c"))],
                        [(0, 1), (1, 1), (0, 2), (0, 3)], ["a", "b", "c"])

    def test_a_give_or_take_ahead_that_is_not_settled(self):
        # 1.1 and 1.2 wait for 0, but are no uses, and no use up to 0.2 hangs on them.
        deeds = [deed(1, 1, (0, 0, 0), give(2)), deed(1, 2, (0, 1, 0), take(2, "lead")),
                 deed(0, 1, (0, 0, 0), use("a")), deed(0, 2, (1, 0, 0), use("b")),
                 deed(2, 1, (1, 0, 0), use("no"))]
        roll = heard(3, deeds)
        self.assertEqual([roll.is_settled((1, 1)), roll.is_settled((1, 2))], [False, False])
        self.assertFirm(3, deeds, [(0, 1), (0, 2)], ["a", "b"], ["a", "b"])

    def test_firm_text_is_of_those_that_stand(self):
        deeds = [deed(0, 1, (0, 0), give(1)), deed(1, 1, (1, 0), use("b")),
                 deed(0, 2, (1, 0), take(1)), deed(0, 3, (2, 1), use("c")),
                 deed(1, 2, (3, 1), use("no"))]
        self.assertFirm(2, deeds, [(1, 1), (0, 3)], ["c"], ["c"])
        deeds = [deed(0, 1, (0, 0), give(1)), deed(1, 1, (1, 0), use("b")),
                 deed(0, 2, (1, 1), take(1)), deed(0, 3, (2, 1), use("c")),
                 deed(1, 2, (3, 1), use("no"))]
        self.assertFirm(2, deeds, [(1, 1), (0, 3)], ["b", "c"], ["b", "c"])


class TestFirmWaits(WordCase):
    def test_for_those_without_a_deed_that_has_seen_as_many(self):
        deeds = [deed(0, 1, (0, 0, 0), use("a")), deed(0, 2, (1, 0, 0), use("b"))]
        self.assertFirmWaits(3, deeds, {(0, 1): [1, 2], (0, 2): [1, 2]})
        deeds = deeds + [deed(2, 1, (0, 0, 0))]
        self.assertFirmWaits(3, deeds, {(0, 1): [1], (2, 1): [0, 1], (0, 2): [0, 1, 2]})
        deeds = deeds + [deed(1, 1, (1, 0, 0)), deed(0, 3, (2, 0, 1))]
        self.assertFirmWaits(3, deeds, {(0, 1): [], (2, 1): [1], (0, 2): [1, 2]})

    def test_for_those_for_whom_it_waits_to_be_settled(self):
        deeds = [deed(1, 1, (0, 0)), deed(0, 1, (0, 0))]
        self.assertFirmWaits(2, deeds, {(0, 1): [], (1, 1): [0]})

    def test_for_those_for_whom_uses_ahead_of_it_wait(self):
        # 0.2 and 0.3 are behind 1.1, which waits for 0; 0.1 is ahead of it.
        deeds = [deed(1, 1, (0, 0)), deed(0, 1, (0, 0)), deed(0, 2, (1, 0)), deed(0, 3, (2, 0)),
                 deed(1, 2, (3, 1))]
        self.assertFirmWaits(2, deeds, {(0, 1): [], (1, 1): [0], (0, 2): [0], (0, 3): [0],
                                        (1, 2): [0]})
        self.assertFirmWaits(2, deeds + [deed(0, 4, (3, 2))], {
            (0, 1): [], (1, 1): [], (0, 2): [], (0, 3): [], (1, 2): [], (0, 4): [1]})

    def test_not_for_those_for_whom_uses_behind_it_wait(self):
        deeds = [deed(0, 1, (0, 0)), deed(1, 1, (1, 0)), deed(0, 2, (1, 0))]
        self.assertFirmWaits(2, deeds, {(0, 1): [], (0, 2): [], (1, 1): [0]})

    def test_rising_and_each_once(self):
        deeds = [deed(3, 1, (0, 0, 0, 0)), deed(2, 1, (0, 0, 0, 1)), deed(2, 2, (0, 0, 1, 1))]
        self.assertFirmWaits(4, deeds, {(3, 1): [0, 1], (2, 1): [0, 1, 3], (2, 2): [0, 1, 3]})

    def test_no_use(self):
        deeds = [deed(0, 1, (0, 0, 0), give(1)), deed(0, 2, (1, 0, 0), take(2, "lead")),
                 deed(1, 1, (1, 0, 0), give(2)), deed(1, 2, (1, 1, 0), use())]
        roll = heard(3, deeds + [deed(0, 4, (3, 0, 0), give(1))])
        for own in ((0, 1), (0, 2), (1, 1)):
            self.assertRefused(NoUse, own, lambda: roll.firm_waits(own), roll)
            self.assertRefused(NoUse, own, lambda: roll.firm_waits(mark=own), roll)
        self.assertEqual(roll.firm_waits((1, 2)), [0, 2])

    def test_no_mark_goes_ahead_of_no_use(self):
        roll = heard(2, [deed(0, 1, (0, 0), give(1)), deed(0, 3, (2, 0), give(1))])
        for own in ((0, 3), (0, 2), (1, 1), (0, 0), (2, 1), (-1, 1)):
            self.assertRefused(NoMark, own, lambda: roll.firm_waits(own), roll)


def uses_of(world):
    return [one for one in world if one[3][0] == "use"]


class TestMany(HandCase):
    def worlds(self):
        for members in (1, 2, 3, 4, 6):
            for seed in range(4):
                yield members, busy(members, 50, seed * 13 + members)
        yield 6, grown(6, 70, 8)

    def test_as_the_words_tell(self):
        for members, world in self.worlds():
            for part in (world, shuffled(world, 2)[:40], world[:25]):
                roll, plain = heard(members, part), Plain(members, part)
                self.assertEqual(roll.text(), plain.text())
                self.assertEqual(roll.firm(), marks_of(plain.firm()))
                self.assertEqual(roll.firm_text(), plain.firm_text())
                for one in uses_of(plain.deeds):
                    self.assertEqual(roll.firm_waits(one[:2]), plain.firm_waits(one))

    def test_none_are_told_just_where_it_is_firm(self):
        for members, world in self.worlds():
            roll = heard(members, world)
            for one in uses_of(world):
                self.assertIs(roll.firm_waits(one[:2]) == [], one[:2] in roll.firm())

    def test_told_are_just_those_whose_deed_is_wanted(self):
        for members, world in self.worlds():
            roll = heard(members, world)
            firm = {}
            for one in uses_of(world):
                waits = roll.firm_waits(one[:2])
                self.assertEqual(waits, sorted(set(waits)))
                wanted = [waits] + [[other for other in waits if other != left]
                                    for left in waits]
                for at, some in enumerate(wanted):
                    if tuple(some) not in firm:
                        more = [roll.next_deed(member, use("last")) for member in some]
                        firm[tuple(some)] = heard(members, world + more).firm()
                    self.assertIs(one[:2] in firm[tuple(some)], at == 0, (one, some))

    def test_the_firm_text_is_the_beginning_of_the_text(self):
        for members, world in self.worlds():
            for part in (world, shuffled(world, 1)[:40]):
                roll = heard(members, part)
                firm, text = roll.firm_text(), roll.text()
                self.assertEqual(text[:len(firm)], firm)

    def test_the_firm_uses_are_the_first_ones(self):
        for members, world in self.worlds():
            roll = heard(members, world)
            firm = roll.firm()
            self.assertEqual(marks_of(uses_of(roll.deeds()))[:len(firm)], firm)
            words = {one[:2]: one[3][2] for one in uses_of(world)}
            self.assertEqual(roll.firm_text(), [words[own] for own in firm if roll.stands(own)])

    def test_nothing_is_firm_without_a_deed_of_each(self):
        for members, world in self.worlds():
            for left in range(members):
                part = [one for one in world if one[0] != left]
                self.assertEqual(heard(members, part).firm(), [])

    def test_the_firm_text_only_grows(self):
        for members, world in self.worlds():
            for seed in range(3):
                roll, firm, marks = Roll(members), [], []
                for one in (world if seed == 0 else shuffled(world, seed)):
                    roll.hear(one)
                    self.assertEqual(roll.firm_text()[:len(firm)], firm)
                    self.assertEqual(roll.firm()[:len(marks)], marks)
                    firm, marks = roll.firm_text(), roll.firm()

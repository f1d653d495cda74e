"""Promises [1] to [4], over all that a hand hears and tells."""

import copy
import random
import signal
import time
import unittest

from firmroll.deeds import in_order, look
from firmroll.errors import RollError
from firmroll.readings import read_deed, read_roll
from firmroll.rolls import Roll
from firmroll.texts import show_deed, show_roll
from tests.hands import HandCase, everything, give, heard, marks_of, standing, take, use
from tests.houses import busy, carried, deed, grown, shuffled


def worlds(many, seeds):
    for members in (1, 2, 3, 4, 5, 6):
        for seed in range(seeds):
            yield members, busy(members, many, seed * 23 + members)
    yield 6, grown(6, many, 29)


def is_beginning(short, long):
    return long[:len(short)] == short


class TestOrders(HandCase):
    """What is told is a matter of the set of deeds that were heard alone."""

    def test_in_any_order_and_however_often(self):
        for members, world in worlds(40, 3):
            whole = everything(heard(members, world))
            for seed in range(3):
                twice = shuffled(world + world[::2], seed)
                roll = heard(members, twice)
                self.assertEqual(everything(roll), whole)
                self.assertTrue(roll == heard(members, world))
                self.assertFalse(roll != heard(members, world))
            for order in (world[::-1], carried(world, 1), in_order(world)):
                self.assertEqual(everything(heard(members, order)), whole)

    def test_of_a_part(self):
        for members, world in worlds(40, 3):
            part = shuffled(world, 5)[:30]
            told = everything(heard(members, part))
            for seed in range(3):
                self.assertEqual(everything(heard(members, shuffled(part, seed))), told)

    def test_what_is_asked_between_changes_nothing(self):
        for members, world in worlds(25, 2):
            order = shuffled(world, 9)
            roll = Roll(members)
            for one in order:
                everything(roll)
                roll.hear(one)
            self.assertEqual(everything(roll), everything(heard(members, world)))

    def test_what_came_and_changed(self):
        changes = 0
        for members, world in worlds(50, 6):
            for order in (world, carried(world, 2), shuffled(world, 2)):
                roll, here = Roll(members), []
                for one in order:
                    came, changed = self.assertChanges(roll, lambda: roll.hear(one))
                    here += came
                    changes += len(changed)
                self.assertEqual(sorted(here), sorted(marks_of(world)))
        self.assertGreater(changes, 50)

    def test_through_rolls_joined_and_read_back(self):
        for members, world in worlds(40, 2):
            whole = everything(heard(members, world))
            mixed = shuffled(world, 6)
            roll = read_roll(show_roll(heard(members, mixed[:20])))
            other = read_roll(show_roll(heard(members, mixed[15:])))
            roll.join(other)
            self.assertEqual(everything(roll), whole)

    def test_what_two_hands_tell_stays_apart(self):
        for members, world in worlds(20, 1):
            one, other = Roll(members), Roll(members)
            empty = everything(other)
            for single in world:
                one.hear(single)
            self.assertEqual(everything(other), empty)


class TestPromises(HandCase):
    def test_the_firm_text_is_the_beginning_of_what_it_is_behind_more(self):
        for members, world in worlds(50, 3):
            for seed in range(3):
                mixed = shuffled(world, seed) if seed else world
                roll = heard(members, mixed[:20])
                firm = roll.firm_text()
                for at in range(20, 50, 10):
                    roll.join(heard(members, mixed[at:at + 10]))
                    self.assertTrue(is_beginning(firm, roll.firm_text()))
                    firm = roll.firm_text()

    def test_of_two_hands_the_one_is_the_beginning_of_the_other(self):
        grown_ones = 0
        for members, world in worlds(60, 3):
            chance = random.Random(members)
            hands = [heard(members, world[:chance.randrange(61)]) for _ in range(3)]
            hands += [heard(members, shuffled(world, seed)[:50]) for seed in range(2)]
            # Each hand of a member has what the note of one of its deeds says.
            for one in chance.sample(world, 6):
                hands.append(heard(members, [other for other in world
                                             if other[1] <= one[2][other[0]]]))
            for one in hands:
                for other in hands:
                    texts = sorted((one.firm_text(), other.firm_text()), key=len)
                    self.assertTrue(is_beginning(*texts))
                    grown_ones += texts[0] != texts[1] and texts[0] != []
        self.assertGreater(grown_ones, 50)

    def test_settled_in_one_hand_is_so_in_one_that_has_heard_more(self):
        for members, world in worlds(50, 3):
            for seed in range(2):
                mixed = shuffled(world, seed) if seed else world
                one, other = heard(members, mixed[:35]), heard(members, mixed)
                for own in marks_of(one.deeds()):
                    if one.is_settled(own):
                        self.assertIs(other.is_settled(own), True)
                        self.assertIs(other.stands(own), one.stands(own))

    def test_settled_in_two_hands_stands_or_not_in_both(self):
        for members, world in worlds(50, 3):
            one = heard(members, shuffled(world, 1)[:40])
            other = heard(members, shuffled(world, 2)[:40])
            for own in set(marks_of(one.deeds())) & set(marks_of(other.deeds())):
                if one.is_settled(own) and other.is_settled(own):
                    self.assertIs(one.stands(own), other.stands(own))

    def test_one_more_deed_of_each(self):
        for members, world in worlds(50, 3):
            for whats in ([use("last")] * members,
                          [take(member + 1) if member + 1 < members else use("last")
                           for member in range(members)],
                          [give(member + 1, "lead") if member + 1 < members else use("last")
                           for member in range(members)]):
                roll = heard(members, world)
                more = [roll.next_deed(member, what) for member, what in enumerate(whats)]
                for one in more:
                    roll.hear(one)
                marks = marks_of(in_order(world))
                for own in marks:
                    self.assertIs(roll.is_settled(own), True)
                    self.assertEqual(roll.waits_for(own), [])
                uses = [one[:2] for one in in_order(world) if one[3][0] == "use"]
                self.assertTrue(is_beginning(uses, roll.firm()))
                words = [one[3][2] for one in in_order(world)
                         if one[3][0] == "use" and roll.stands(one[:2])]
                self.assertTrue(is_beginning(words, roll.firm_text()))

    def test_no_deed_of_a_junior_or_a_peer_changes_whether_one_stands(self):
        for members, world in worlds(40, 3):
            roll = heard(members, world)
            before = standing(roll)
            for author in range(members):
                # A further deed beside all others of its author's last note.
                own = [one for one in world if one[0] == author]
                number = len(own)
                note = list(own[-1][2]) if own else [0] * members
                note[author] = number
                for word in (give, take):
                    for member in range(author + 1, members):
                        for kind in ("use", "lead"):
                            late = deed(author, number + 1, note, word(member, kind))
                            other = heard(members, world + [late])
                            for mark, stands in before.items():
                                if mark[0] <= author:
                                    self.assertIs(other.stands(mark), stands)

    def test_a_paper_judged_in_another_hand(self):
        for members, world in worlds(40, 2):
            one, other = heard(members, world), heard(members, world[::-1])
            for own in marks_of(world):
                self.assertIs(other.paper_holds(own, one.paper(own)), True)


class TestOwn(HandCase):
    """Told lists are the asker's own, and nothing handed in is changed or kept."""

    def setUp(self):
        self.world = busy(4, 60, 3)
        self.late = [deed(0, 900, (899, 0, 0, 0)), deed(3, 901, (0, 0, 0, 900))]
        self.roll = heard(4, self.world + self.late)

    def asked(self):
        roll = self.roll
        calls = [roll.deeds, roll.waiting, roll.text, roll.firm_text, roll.firm]
        for one in self.world:
            own = one[:2]
            calls += [lambda own=own: roll.waits_for(own), lambda own=own: roll.paper(own)]
            if one[3][0] == "use":
                calls.append(lambda own=own: roll.firm_waits(own))
        return calls

    def test_told_lists_changed(self):
        before = everything(self.roll)
        for call in self.asked():
            told = call()
            kept = list(told)
            self.assertIs(type(told), list)
            self.assertIsNot(call(), told)
            told.append("more")
            told.reverse()
            self.assertEqual(call(), kept)
            told.clear()
            self.assertEqual(call(), kept)
        self.assertEqual(everything(self.roll), before)

    def test_told_lists_stay_as_they_are(self):
        roll = heard(4, self.world[:40])
        self.roll = roll
        self.world, more = self.world[:40], self.world[40:]
        told = [call() for call in self.asked()]
        kept = copy.deepcopy(told)
        for one in more + self.late:
            roll.hear(one)
        for call in self.asked():
            call()
        self.assertEqual(told, kept)

    def test_what_hear_and_join_told_changed(self):
        roll, other = Roll(4), Roll(4)
        for one in carried(self.world, 1):
            came, changed = roll.hear(one)
            kept = (list(came), list(changed))
            self.assertIsNot(came, changed)
            other.hear(one)
            self.assertEqual((came, changed), kept)
            came.clear()
            changed.append((0, 1))
        self.assertEqual(everything(roll), everything(other))
        third = heard(4, self.world[:20])
        came, changed = third.join(roll)
        came.clear()
        changed.extend([(9, 9)] * 3)
        self.assertEqual(everything(third), everything(roll))
        self.assertEqual(third.join(roll), ([], []))

    def test_lists_handed_in(self):
        for own in marks_of(self.world):
            rows = self.roll.paper(own)
            kept = copy.deepcopy(rows)
            before = everything(self.roll)
            self.assertIs(self.roll.paper_holds(own, rows), True)
            self.assertEqual(rows, kept)
            rows.clear()
            self.assertIs(self.roll.paper_holds(own, rows), False)
            self.assertEqual(rows, [])
            self.assertEqual(everything(self.roll)["papers"], before["papers"])
        deeds = shuffled(self.world, 1)
        kept = list(deeds)
        told = in_order(deeds)
        told.clear()
        self.assertEqual(deeds, kept)

    def test_deeds_handed_in(self):
        for one in self.world:
            kept = copy.deepcopy(one)
            look(4, one)
            self.roll.hear(one)
            show_deed(one)
            self.assertEqual(one, kept)

    def test_a_roll_handed_in(self):
        before = everything(self.roll)
        other = Roll(4)
        other.join(self.roll)
        show_roll(self.roll)
        self.assertTrue(other == self.roll)
        self.assertEqual(everything(self.roll), before)

    def test_what_is_told_of_values_that_cannot_be_changed(self):
        for member in range(4):
            self.assertIs(type(self.roll.note(member)), tuple)
            self.assertIs(type(self.roll.next_deed(member, use())), tuple)
        for own in marks_of(self.world):
            for row in self.roll.paper(own):
                self.assertIs(type(row), tuple)
                self.assertIn(type(row[2]), (tuple, type(None)))

    def test_numbers_are_told_as_numbers(self):
        for number in [self.roll.members(), len(self.roll), *self.roll.note(0),
                       *self.roll.next_deed(1, use())[:2]]:
            self.assertIs(type(number), int)
        for own in marks_of(self.world):
            for told in (self.roll.stands(own), self.roll.is_settled(own)):
                self.assertIs(type(told), bool)
            for member in self.roll.waits_for(own):
                self.assertIs(type(member), int)


class TestNames(HandCase):
    """Arguments by their places or by the told names."""

    def test_all(self):
        one = deed(0, 1, (0, 0), give(1))
        roll, other = Roll(members=2), Roll(2)
        self.assertEqual(roll.hear(deed=one), ([(0, 1)], []))
        self.assertEqual(other.join(other=roll), ([(0, 1)], []))
        last = roll.next_deed(what=use(), member=1)
        self.assertEqual(last, roll.next_deed(1, use()))
        for hand in (roll, other):
            hand.hear(last)
        self.assertEqual(roll.note(member=1), roll.note(1))
        own = (1, 1)
        for name in ("stands", "is_settled", "waits_for", "firm_waits", "paper"):
            call = getattr(roll, name)
            self.assertEqual(call(mark=own), call(own))
        rows = roll.paper(own)
        self.assertIs(roll.paper_holds(rows=rows, mark=own), True)
        self.assertIs(roll.paper_holds(own, rows), True)
        self.assertIs(roll.has(kind="use", member=1, power="roof"), True)
        self.assertIs(roll.has(1, "roof", "use"), True)
        self.assertEqual(read_deed(text=show_deed(deed=last)), last)
        self.assertTrue(read_roll(text=show_roll(roll=roll)) == roll)


class TestRefused(HandCase):
    """What is refused changes nothing, whatever else was heard."""

    def test_among_much_that_was_heard(self):
        world = busy(4, 50, 8)
        roll = heard(4, shuffled(world, 3)[:40])
        one = roll.deeds()[-1]
        unlike = deed(one[0], one[1], one[2], use("unlike"))
        bad = (lambda: roll.hear(unlike), lambda: roll.hear(deed(9, 1, (0,) * 4)),
               lambda: roll.join(Roll(3)), lambda: roll.join(heard(4, [unlike])),
               lambda: roll.note(4), lambda: roll.next_deed(-1, use()),
               lambda: roll.next_deed(1, give(1)), lambda: roll.stands((9, 9)),
               lambda: roll.has(4, "roof", "use"), lambda: roll.has(1, "roof", "kind"),
               lambda: roll.is_settled((0, 0)), lambda: roll.waits_for((0, 99)),
               lambda: roll.firm_waits((0, 99)), lambda: roll.paper((1, 99)),
               lambda: roll.paper_holds((1, 99), []))
        before = everything(roll)
        for call in bad:
            with self.assertRaises(RollError):
                call()
            self.assertEqual(everything(roll), before)
        for other in world:
            roll.hear(other)
        self.assertEqual(everything(roll), everything(heard(4, world)))


def woven(members, many):
    """Gives and takes of the lead of one power, each having seen all that was ahead."""
    deeds, note = [], [0] * members
    for at in range(many):
        author = at % members
        word = (give, give, take)[at // members % 3]
        what = use("a") if author == members - 1 else word(author + 1, "lead")
        deeds.append(deed(author, note[author] + 1, note, what))
        note[author] += 1
    return deeds


def apart(members, many):
    """As many of each, who has seen all of its seniors' and nothing of its juniors'."""
    each, deeds = many // members, []
    for author in range(members):
        for number in range(each):
            note = [each] * author + [number] + [0] * (members - author - 1)
            word = take if number % 3 == 1 else give
            what = use("a") if author == members - 1 else word(author + 1, "lead")
            deeds.append(deed(author, number + 1, note, what))
    return deeds


class TestTime(unittest.TestCase):
    def setUp(self):
        # Whoever takes for ever is ended, and the run fails by it.
        signal.alarm(600)
        self.addCleanup(signal.alarm, 0)

    def test_a_hundred_and_twenty_deeds_of_six_members(self):
        # The limit is wide; what is worked out again for each path takes for ever.
        start = time.monotonic()
        for world in (woven(6, 120), apart(6, 120), busy(6, 120, 1), woven(2, 120)):
            members = len(world[0][2])
            for order in (world, world[::-1], shuffled(world, 1)):
                roll = heard(members, order)
                told = everything(roll)
                self.assertEqual(told["len"], 120)
                for own, rows in zip(marks_of(roll.deeds()), told["papers"]):
                    self.assertIs(roll.paper_holds(own, rows), True)
                self.assertTrue(read_roll(show_roll(roll)) == roll)
        self.assertLess(time.monotonic() - start, 120)

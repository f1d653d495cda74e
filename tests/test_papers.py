"""Promises [17] and [18]: papers, and which are let by."""

import copy
import random

from tests.hands import HandCase, give, heard, marks_of, standing, take, use
from tests.houses import busy, deed, grown, shuffled
from tests.plain import Plain


class PaperCase(HandCase):
    def assertPaper(self, members, deeds, own, rows):
        """The paper of a mark is just this, is let by, and wants each of its rows."""
        for order in (deeds, deeds[::-1]):
            roll = heard(members, order)
            told = roll.paper(own)
            self.assertEqual(told, rows)
            self.assertIs(type(told), list)
            self.assertEqual({type(row) for row in told}, {tuple})
            self.assertEqual({type(row[1]) for row in told}, {bool})
            self.assertEqual(roll.paper(mark=own), rows)
            self.assertHolds(roll, own, rows, True)
            for at in range(len(rows)):
                self.assertHolds(roll, own, rows[:at] + rows[at + 1:], False)

    def assertHolds(self, roll, own, rows, expected):
        before = copy.deepcopy(rows)
        self.assertIs(roll.paper_holds(own, rows), expected, rows)
        self.assertIs(roll.paper_holds(rows=rows, mark=own), expected, rows)
        self.assertEqual(rows, before)


class TestPaper(PaperCase):
    def test_of_member_0(self):
        for what in (give(1), take(1), use()):
            self.assertPaper(2, [deed(0, 1, (0, 0), what)], (0, 1), [((0, 1), True, None)])

    def test_by_a_give(self):
        deeds = [deed(0, 1, (0, 0), give(1)), deed(1, 1, (1, 0), use())]
        self.assertPaper(2, deeds, (1, 1), [((0, 1), True, None), ((1, 1), True, (0, 1))])

    def test_without_a_give(self):
        self.assertPaper(2, [deed(1, 1, (0, 0), use())], (1, 1), [((1, 1), False, ())])
        # A give that it has not seen, and one of something else.
        deeds = [deed(0, 1, (0, 0), give(1, "lead")), deed(0, 2, (1, 0), give(1)),
                 deed(1, 1, (1, 0), use())]
        self.assertPaper(2, deeds, (1, 1), [((1, 1), False, ())])

    def test_a_give_that_does_not_stand(self):
        deeds = [deed(1, 1, (0, 0, 0), give(2)), deed(2, 1, (0, 1, 0), use())]
        self.assertPaper(3, deeds, (2, 1), [((1, 1), False, ()), ((2, 1), False, (None,))])

    def test_a_take_that_bears(self):
        deeds = [deed(0, 1, (0, 0), give(1)), deed(0, 2, (1, 0), take(1)),
                 deed(1, 1, (1, 0), use())]
        # The give's own row is not wanted, for the take alone is why.
        self.assertPaper(2, deeds, (1, 1), [((0, 2), True, None), ((1, 1), False, ((0, 2),))])

    def test_a_take_that_bears_and_does_not_stand(self):
        deeds = [deed(0, 1, (0, 0, 0), give(2)), deed(1, 1, (1, 0, 0), take(2)),
                 deed(2, 1, (1, 0, 0), use())]
        self.assertPaper(3, deeds, (2, 1), [
            ((0, 1), True, None), ((1, 1), False, ()), ((2, 1), True, (0, 1))])

    def test_takes_that_do_not_bear(self):
        # 0.1 was seen by the give, 0.3 has seen the deed, 0.4 takes something else.
        deeds = [deed(0, 1, (0, 0), take(1)), deed(0, 2, (1, 0), give(1)),
                 deed(1, 1, (2, 0), use()), deed(0, 3, (2, 1), take(1)),
                 deed(0, 4, (3, 1), take(1, "lead"))]
        self.assertPaper(2, deeds, (1, 1), [((0, 2), True, None), ((1, 1), True, (0, 2))])

    def test_the_first_give_that_will_do(self):
        # 1.1 does not stand, 0.1 is taken, 0.3 and 0.4 would both do.
        deeds = [deed(1, 1, (0, 0, 0), give(2)), deed(0, 1, (0, 0, 0), give(2)),
                 deed(0, 2, (1, 0, 0), take(2)), deed(0, 3, (2, 0, 0), give(2)),
                 deed(0, 4, (3, 0, 0), give(2)), deed(2, 1, (4, 1, 0), use())]
        self.assertPaper(3, deeds, (2, 1), [((0, 3), True, None), ((2, 1), True, (0, 3))])
        roll = heard(3, deeds)
        other = [((0, 4), True, None), ((2, 1), True, (0, 4))]
        self.assertHolds(roll, (2, 1), other, True)

    def test_the_first_give_by_size(self):
        # 1.1 is of size 1, 0.3 of size 2: by marks it would be the other way round.
        deeds = [deed(0, 1, (0, 0, 0), give(1, "lead")), deed(0, 2, (1, 0, 0), use()),
                 deed(0, 3, (2, 0, 0), give(2)), deed(1, 1, (1, 0, 0), give(2)),
                 deed(2, 1, (3, 1, 0), use())]
        self.assertPaper(3, deeds, (2, 1), [
            ((0, 1), True, None), ((1, 1), True, (0, 1)), ((2, 1), True, (1, 1))])

    def test_the_first_take_that_bears_and_stands(self):
        # 1.1 does not stand, 2.1 and 0.2 both do, and 2.1 is of a smaller size.
        deeds = [deed(0, 1, (0, 0, 0, 0), give(2, "lead")), deed(1, 1, (0, 0, 0, 0), take(3)),
                 deed(0, 2, (1, 0, 0, 0), give(3)), deed(2, 1, (1, 0, 0, 0), take(3)),
                 deed(0, 3, (2, 0, 0, 0), take(3)), deed(3, 1, (2, 0, 0, 0), use())]
        self.assertPaper(4, deeds, (3, 1), [
            ((0, 1), True, None), ((2, 1), True, (0, 1)), ((3, 1), False, ((2, 1),))])
        roll = heard(4, deeds)
        self.assertHolds(roll, (3, 1), [((0, 3), True, None), ((3, 1), False, ((0, 3),))], True)

    def test_a_reason_for_each_give_in_order(self):
        deeds = [deed(0, 1, (0, 0, 0), give(2)), deed(1, 1, (0, 0, 0), give(2)),
                 deed(0, 2, (1, 0, 0), take(2)), deed(0, 3, (2, 0, 0), give(2)),
                 deed(0, 4, (3, 0, 0), take(2)), deed(2, 1, (4, 1, 0), use())]
        self.assertPaper(3, deeds, (2, 1), [
            ((0, 2), True, None), ((0, 4), True, None), ((1, 1), False, ()),
            ((2, 1), False, ((0, 2), None, (0, 4)))])

    def test_a_give_that_falls_and_is_taken_too(self):
        # None goes ahead of the take, where the give does not stand.
        deeds = [deed(1, 1, (0, 0, 0), give(2)), deed(0, 1, (0, 0, 0), take(2)),
                 deed(2, 1, (0, 1, 0), use())]
        self.assertPaper(3, deeds, (2, 1), [((1, 1), False, ()), ((2, 1), False, (None,))])
        roll = heard(3, deeds)
        self.assertHolds(roll, (2, 1), [((0, 1), True, None), ((2, 1), False, ((0, 1),))], True)

    def test_and_so_of_those(self):
        deeds = [deed(0, 1, (0,) * 4, give(1, "lead")),
                 deed(1, 1, (1, 0, 0, 0), give(2, "lead")),
                 deed(2, 1, (1, 1, 0, 0), give(3)),
                 deed(0, 2, (1, 0, 0, 0), take(2, "lead")),
                 deed(3, 1, (1, 1, 1, 0), use())]
        self.assertPaper(4, deeds, (3, 1), [
            ((0, 2), True, None), ((2, 1), False, ((0, 2),)), ((3, 1), False, (None,))])
        self.assertPaper(4, deeds[:3] + deeds[4:], (3, 1), [
            ((0, 1), True, None), ((1, 1), True, (0, 1)), ((2, 1), True, (1, 1)),
            ((3, 1), True, (2, 1))])

    def test_a_row_that_is_wanted_twice_is_there_once(self):
        deeds = [deed(0, 1, (0,) * 4, give(1, "lead")), deed(1, 1, (1, 0, 0, 0), give(3)),
                 deed(2, 1, (0, 0, 0, 0), take(3)), deed(2, 2, (0, 0, 1, 0), take(3)),
                 deed(1, 2, (1, 1, 0, 0), take(2, "lead")),
                 deed(3, 1, (1, 1, 0, 0), use())]
        self.assertPaper(4, deeds, (3, 1), [
            ((0, 1), True, None), ((1, 1), True, (0, 1)), ((2, 1), False, ()),
            ((2, 2), False, ()), ((3, 1), True, (1, 1))])

    def test_by_author_then_number(self):
        deeds = [deed(0, 1, (0,) * 3, take(2))]
        deeds += [deed(0, at + 1, (at, 0, 0), give(2) if at % 2 else take(2))
                  for at in range(1, 12)]
        deeds += [deed(2, 1, (10, 0, 0), use())]
        # Takes 0.3 up to 0.11 let the gives ahead of them fall.
        roll = heard(3, deeds)
        told = roll.paper((2, 1))
        self.assertEqual(marks_of(told), sorted(marks_of(told)))
        self.assertEqual(told, [((0, 3), True, None), ((0, 5), True, None), ((0, 7), True, None),
                                ((0, 9), True, None), ((0, 11), True, None),
                                ((2, 1), False, ((0, 3), (0, 5), (0, 7), (0, 9), (0, 11)))])


class TestHolds(PaperCase):
    """Row by row what is right, and what of a paper is not let by."""

    def setUp(self):
        # 2.1 stands by 0.2, 1.2 or 0.3, and the take 1.1, which falls, bears on it.
        self.deeds = [
            deed(0, 1, (0, 0, 0), give(1, "lead")), deed(0, 2, (1, 0, 0), give(2)),
            deed(1, 1, (0, 0, 0), take(2)), deed(0, 3, (2, 0, 0), give(2)),
            deed(1, 2, (1, 1, 0), give(2)), deed(2, 1, (3, 2, 0), use("a")),
            deed(0, 4, (3, 2, 1), take(2)), deed(2, 2, (4, 2, 1), use("b")),
            deed(0, 5, (4, 2, 1), take(1, "lead")), deed(1, 3, (4, 2, 2), use("c")),
        ]
        self.roll = heard(3, self.deeds + [deed(0, 9, (8, 0, 0), give(2))])
        self.stands = [((0, 2), True, None), ((1, 1), False, ()), ((2, 1), True, (0, 2))]
        # The gives of it are 0.2, 1.2, 0.3 by size and author, and 0.4 takes beside it.
        self.falls = [((0, 4), True, None), ((2, 2), False, ((0, 4), (0, 4), (0, 4)))]

    def holds(self, own, rows, expected=True):
        self.assertHolds(self.roll, own, rows, expected)
        self.assertHolds(self.roll, own, rows[::-1], expected)

    def bent(self, own, rows, at, row):
        self.holds(own, rows[:at] + [row] + rows[at + 1:], False)

    def test_as_told(self):
        self.assertEqual(standing(self.roll), {
            (0, 1): True, (1, 1): False, (0, 2): True, (0, 3): True, (1, 2): True,
            (2, 1): True, (0, 4): True, (2, 2): False, (0, 5): True, (1, 3): False})
        self.assertEqual(self.roll.paper((2, 1)), self.stands)
        self.assertEqual(self.roll.paper((2, 2)), self.falls)
        self.holds((2, 1), self.stands)
        self.holds((2, 2), self.falls)

    def test_no_rows(self):
        for own in ((0, 1), (2, 1), (2, 2)):
            self.holds(own, [], False)

    def test_the_deed_has_a_row(self):
        self.holds((2, 1), self.falls, False)
        self.holds((2, 2), self.stands, False)
        self.holds((2, 1), self.stands[:2], False)
        self.holds((0, 4), self.falls)
        self.holds((1, 1), self.stands)

    def test_no_mark_has_two_rows(self):
        for row in self.stands:
            self.holds((2, 1), self.stands + [row], False)
        self.holds((2, 1), self.stands + [((2, 1), False, (None, None, None))], False)
        # Two right ones are two as well.
        second = [((0, 3), True, None), ((2, 1), True, (0, 3))]
        self.holds((2, 1), second + [self.stands[1]])
        self.holds((2, 1), self.stands + second, False)

    def test_further_rows(self):
        self.holds((2, 1), self.stands + [((0, 1), True, None)])
        self.holds((2, 1), self.stands + self.falls)
        self.holds((2, 2), self.stands + self.falls)
        # Each further one has to be right, too.
        for row in (((0, 1), False, ()), ((0, 1), True, (0, 2)), ((1, 3), True, (0, 1)),
                    ((1, 2), True, (0, 2)), ((1, 2), True, (0, 1)), ((1, 2), False, (None,))):
            self.holds((2, 1), self.stands + [row], False)

    def test_all_are_of_deeds_in_the_roll(self):
        # 0.9 waits, and of 0.6 nothing was heard.
        for own in ((0, 9), (0, 6), (2, 3), (1, 0), (0, 0), (-1, 1), (3, 1), (9, 9)):
            for row in ((own, True, None), (own, False, ()), (own, True, (0, 1))):
                self.holds((2, 1), self.stands + [row], False)

    def test_true_of_member_0(self):
        self.holds((0, 1), [((0, 1), True, None)])
        for other in ((0, 1), (0, 2), (1, 1), (9, 9)):
            self.holds((0, 2), [((0, 1), True, None), ((0, 2), True, other)], False)

    def test_false_of_member_0(self):
        for reasons in ((), (None,), ((0, 4),), ((1, 1), None)):
            self.holds((0, 1), [((0, 1), False, reasons), self.falls[0]], False)

    def test_true_with_none_but_of_member_0(self):
        self.bent((2, 1), self.stands, 2, ((2, 1), True, None))
        self.holds((2, 1), [((2, 1), True, None)], False)
        self.holds((1, 2), [((1, 2), True, None)], False)

    def test_true_with_what_is_no_such_give(self):
        rows = self.stands + self.falls[:1] + [((0, 1), True, None), ((0, 3), True, None),
                                               ((1, 2), True, (0, 1))]
        self.holds((2, 1), rows)
        # A give of another one's, a take, a use, a mark that is not there.
        for other in ((0, 1), (1, 1), (0, 4), (2, 1), (9, 9), (0, 9), (0, 0)):
            self.bent((2, 1), rows, 2, ((2, 1), True, other))
        for other in ((0, 2), (0, 3), (1, 2)):
            self.holds((2, 1), rows[:2] + [((2, 1), True, other)] + rows[3:])

    def test_true_with_a_give_that_was_not_seen(self):
        deeds = [deed(0, 1, (0, 0), give(1)), deed(0, 2, (1, 0), give(1)),
                 deed(1, 1, (1, 0), use("a")), deed(1, 2, (2, 1), use("b"))]
        roll = heard(2, deeds)
        rows = [((0, 1), True, None), ((0, 2), True, None)]
        self.assertHolds(roll, (1, 1), rows + [((1, 1), True, (0, 1))], True)
        self.assertHolds(roll, (1, 1), rows + [((1, 1), True, (0, 2))], False)
        self.assertHolds(roll, (1, 2), rows + [((1, 2), True, (0, 2))], True)

    def test_true_with_a_give_of_another_kind_or_power(self):
        deeds = [deed(0, 1, (0, 0), give(1)), deed(0, 2, (1, 0), give(1, "lead")),
                 deed(0, 3, (2, 0), give(1, "use", "door")), deed(1, 1, (3, 0), use("a"))]
        roll = heard(2, deeds)
        for number, expected in ((1, True), (2, False), (3, False)):
            rows = [((0, number), True, None), ((1, 1), True, (0, number))]
            self.assertHolds(roll, (1, 1), rows, expected)

    def test_true_whose_give_has_no_row_or_a_row_false(self):
        self.holds((2, 1), self.stands[1:], False)
        deeds = [deed(1, 1, (0, 0, 0), give(2)), deed(2, 1, (0, 1, 0), use())]
        roll = heard(3, deeds)
        self.assertHolds(roll, (2, 1), [((1, 1), False, ()), ((2, 1), True, (1, 1))], False)
        self.assertHolds(roll, (2, 1), [((1, 1), True, (0, 1)), ((2, 1), True, (1, 1))], False)

    def test_true_where_a_take_that_bears_has_no_row_or_a_row_true(self):
        self.holds((2, 1), [self.stands[0], self.stands[2]], False)
        rows = [((0, 2), True, None), ((0, 4), True, None), ((2, 2), True, (0, 2)),
                ((1, 1), False, ())]
        self.holds((2, 2), rows, False)
        self.holds((2, 2), rows[:1] + rows[2:], False)

    def test_true_where_one_of_several_takes_has_none(self):
        deeds = [deed(0, 1, (0, 0, 0), give(2)), deed(1, 1, (0, 0, 0), take(2)),
                 deed(1, 2, (0, 1, 0), take(2)), deed(2, 1, (1, 0, 0), use())]
        rows = [((0, 1), True, None), ((1, 1), False, ()), ((1, 2), False, ()),
                ((2, 1), True, (0, 1))]
        self.assertPaper(3, deeds, (2, 1), rows)

    def test_true_where_a_take_bears_on_another_give_alone(self):
        # 1.1 bears on 0.1 and not on 0.2, which has seen it: no row of it is wanted.
        deeds = [deed(0, 1, (0, 0, 0), give(2)), deed(1, 1, (0, 0, 0), take(2)),
                 deed(0, 2, (1, 1, 0), give(2)), deed(2, 1, (2, 1, 0), use())]
        roll = heard(3, deeds)
        self.assertHolds(roll, (2, 1), [((0, 2), True, None), ((2, 1), True, (0, 2))], True)
        self.assertHolds(roll, (2, 1), [((0, 1), True, None), ((2, 1), True, (0, 1))], False)

    def test_false_with_too_few_or_too_many_reasons(self):
        one = (0, 4)
        self.bent((2, 2), self.falls, 1, ((2, 2), False, ()))
        for many in (1, 2, 4, 5):
            self.bent((2, 2), self.falls, 1, ((2, 2), False, (one,) * many))
        self.holds((1, 1), [((1, 1), False, ())])
        for reasons in ((None,), (one,), (None, None)):
            self.holds((1, 1), [((1, 1), False, reasons), self.falls[0]], False)

    def test_false_with_none_where_the_give_has_no_row_or_a_row_true(self):
        for at in range(3):
            reasons = [(0, 4)] * 3
            reasons[at] = None
            rows = [self.falls[0], ((2, 2), False, tuple(reasons))]
            self.holds((2, 2), rows, False)
            more = [((0, 1), True, None), ((0, 2), True, None), ((0, 3), True, None),
                    ((1, 2), True, (0, 1))]
            self.holds((2, 2), rows + more, False)

    def test_false_with_a_take_that_does_not_bear(self):
        # 1.1 bears on it and 0.2 or 0.3, but not on 1.2; 0.5 takes something else.
        rows = [self.falls[0], ((1, 1), False, ()), ((0, 5), True, None), ((0, 1), True, None)]
        for at in range(3):
            for other in ((1, 1), (0, 5), (0, 2), (2, 1), (2, 2), (9, 9), (0, 9), (0, 0)):
                reasons = [(0, 4)] * 3
                reasons[at] = other
                self.holds((2, 2), rows + [((2, 2), False, tuple(reasons))], False)
        self.holds((2, 2), rows + [self.falls[1]])

    def test_false_with_a_take_that_has_seen_the_deed(self):
        deeds = [deed(0, 1, (0, 0), give(1)), deed(1, 1, (1, 0), use("a")),
                 deed(0, 2, (1, 1), take(1)), deed(1, 2, (1, 1), use("b"))]
        roll = heard(2, deeds)
        rows = [((0, 2), True, None)]
        self.assertHolds(roll, (1, 1), rows + [((1, 1), False, ((0, 2),))], False)
        self.assertHolds(roll, (1, 2), rows + [((1, 2), False, ((0, 2),))], True)

    def test_false_with_a_take_that_the_give_has_seen(self):
        deeds = [deed(0, 1, (0, 0), take(1)), deed(0, 2, (1, 0), give(1)),
                 deed(1, 1, (2, 0), use())]
        roll = heard(2, deeds)
        rows = [((0, 1), True, None), ((1, 1), False, ((0, 1),))]
        self.assertHolds(roll, (1, 1), rows, False)

    def test_false_with_a_take_of_another_right(self):
        for what, expected in ((take(1), True), (take(1, "lead"), False), (take(2), False),
                               (take(1, "use", "door"), False), (give(1), False)):
            deeds = [deed(0, 1, (0, 0, 0), give(1)), deed(0, 2, (1, 0, 0), what),
                     deed(1, 1, (1, 0, 0), use())]
            rows = [((0, 2), True, None), ((1, 1), False, ((0, 2),))]
            self.assertHolds(heard(3, deeds), (1, 1), rows, expected)

    def test_false_where_a_take_has_no_row_or_a_row_false(self):
        self.holds((2, 2), self.falls[1:], False)
        deeds = [deed(0, 1, (0, 0, 0), give(2)), deed(1, 1, (0, 0, 0), take(2)),
                 deed(2, 1, (1, 0, 0), use())]
        roll = heard(3, deeds)
        rows = [((1, 1), False, ()), ((2, 1), False, ((1, 1),))]
        self.assertHolds(roll, (2, 1), rows, False)
        self.assertHolds(roll, (2, 1), [((1, 1), True, None), rows[1]], False)

    def test_false_with_reasons_in_another_order(self):
        deeds = [deed(0, 1, (0, 0, 0), give(2)), deed(1, 1, (0, 0, 0), give(2)),
                 deed(0, 2, (1, 0, 0), take(2)), deed(0, 3, (2, 0, 0), give(2)),
                 deed(0, 4, (3, 0, 0), take(2)), deed(2, 1, (4, 1, 0), use())]
        roll = heard(3, deeds)
        rows = [((0, 2), True, None), ((0, 4), True, None), ((1, 1), False, ())]
        # 0.4 bears on all three gives, 0.2 on the first two alone.
        for reasons, expected in ((((0, 2), None, (0, 4)), True), (((0, 4), None, (0, 4)), True),
                                  (((0, 4), (0, 2), (0, 4)), True),
                                  (((0, 4), None, (0, 2)), False),
                                  ((None, (0, 2), (0, 4)), False),
                                  (((0, 2), (0, 4), None), False)):
            self.assertHolds(roll, (2, 1), rows + [((2, 1), False, reasons)], expected)

    def test_of_the_other_kind(self):
        for own in marks_of(self.roll.deeds()):
            told = self.roll.paper(own)
            turned = [(row[0], not row[1], row[2]) if row[0] == own else row for row in told]
            self.assertHolds(self.roll, own, turned, False)

    def test_the_rows_may_stand_in_any_order(self):
        for seed in range(4):
            self.assertHolds(self.roll, (2, 1), shuffled(self.stands, seed), True)


def bends(chance, rows, marks):
    """A paper with one row bent, or left out, or put in besides."""
    rows = list(rows)
    at = chance.randrange(len(rows))
    own, stands, why = rows[at]
    some = marks + [(0, 99), (9, 1)]
    if not stands and why and chance.random() < 0.5:
        reasons = list(why)
        reasons[chance.randrange(len(why))] = chance.choice(some + [None])
        why = chance.choice((tuple(reasons), why[1:], why + why[:1], why[::-1]))
    elif stands and chance.random() < 0.5:
        why = chance.choice(some + [None])
    else:
        kind = chance.randrange(4)
        if kind == 0:
            return rows[:at] + rows[at + 1:]
        if kind == 1:
            return rows + [rows[at]]
        if kind == 2:
            return rows + [chance.choice((
                (chance.choice(some), True, chance.choice(some + [None])),
                (chance.choice(some), False, chance.choice(((), (None,), (some[0],))))))]
        own = chance.choice(some)
    rows[at] = (own, stands, why)
    return rows


class TestMany(PaperCase):
    def worlds(self):
        for members in (1, 2, 3, 4, 6):
            for seed in range(4):
                yield members, busy(members, 50, seed * 17 + members)
        yield 6, grown(6, 70, 18)

    def test_as_the_words_tell(self):
        for members, world in self.worlds():
            for part in (world, shuffled(world, 3)[:40]):
                roll, plain = heard(members, part), Plain(members, part)
                for one in plain.deeds:
                    self.assertEqual(roll.paper(one[:2]), plain.paper(one))

    def test_each_told_one_is_let_by_and_true(self):
        for members, world in self.worlds():
            roll = heard(members, world)
            stands = standing(roll)
            for own in marks_of(world):
                told = roll.paper(own)
                self.assertIs(roll.paper_holds(own, told), True)
                self.assertEqual(marks_of(told), sorted(set(marks_of(told))))
                self.assertEqual([row[1] for row in told], [stands[row[0]] for row in told])

    def test_each_row_of_it_is_wanted(self):
        for members, world in self.worlds():
            roll = heard(members, world)
            for own in marks_of(world):
                told = roll.paper(own)
                for at in range(len(told)):
                    self.assertIs(roll.paper_holds(own, told[:at] + told[at + 1:]), False)

    def test_all_told_ones_together(self):
        for members, world in self.worlds():
            roll = heard(members, world)
            rows = {row[0]: row for own in marks_of(world) for row in roll.paper(own)}
            for own in marks_of(world):
                self.assertIs(roll.paper_holds(own, list(rows.values())), True)

    def test_bent_ones(self):
        chance = random.Random(7)
        let_by = 0
        for members, world in self.worlds():
            roll, plain = heard(members, world), Plain(members, world)
            stands, marks = standing(roll), marks_of(roll.deeds())
            for own in marks:
                told = roll.paper(own)
                for _ in range(12):
                    rows = bends(chance, told, marks)
                    holds = plain.holds(own, rows)
                    self.assertIs(roll.paper_holds(own, rows), holds, (own, rows))
                    if holds:
                        let_by += 1
                        self.assertEqual([row[1] for row in rows],
                                         [stands[row[0]] for row in rows])
        self.assertGreater(let_by, 50)

    def test_no_paper_of_the_other_kind_is_let_by(self):
        for members, world in self.worlds():
            roll, plain = heard(members, world), Plain(members, world)
            rows = {row[0]: row for own in marks_of(world) for row in roll.paper(own)}
            for one in plain.deeds:
                own = one[:2]
                others = [rows[other] for other in rows if other != own]
                if roll.stands(own):
                    takes = plain.takes(one) + [None]
                    turned = [(own, False, tuple(
                        None if reason is None else reason[:2] for _ in plain.gives(one)))
                        for reason in takes]
                else:
                    turned = [(own, True, give[:2]) for give in plain.gives(one)]
                    turned.append((own, True, None))
                for row in turned:
                    self.assertIs(roll.paper_holds(own, others + [row]), False)

"""Promises [2], [5], [6] and [4]: marks, sizes, what is seen, and the order."""

import copy
import unittest

from firmroll.deeds import has_seen, in_order, mark, size
from tests.houses import deed, grown, shuffled


class TestMarkAndSize(unittest.TestCase):
    def test_mark(self):
        self.assertEqual(mark(deed(0, 1, (0, 0))), (0, 1))
        self.assertEqual(mark(deed(5, 999999999, (0, 0, 0, 0, 0, 999999998))), (5, 999999999))
        self.assertEqual(mark(deed=deed(1, 4, (2, 3))), (1, 4))

    def test_mark_is_a_tuple_of_two(self):
        told = mark(deed(1, 2, (7, 1)))
        self.assertIs(type(told), tuple)
        self.assertEqual([type(part) for part in told], [int, int])

    def test_mark_is_the_same_whatever_is_done(self):
        for what in (("give", "a", "use", 1), ("take", "a", "lead", 1), ("use", "a", "b")):
            self.assertEqual(mark(deed(0, 3, (2, 9), what)), (0, 3))

    def test_mark_of_a_deed_that_would_be_refused(self):
        self.assertEqual(mark(deed(-1, 0, ())), (-1, 0))

    def test_size_is_the_sum_of_the_note(self):
        self.assertEqual(size(deed(0, 1, (0,))), 0)
        self.assertEqual(size(deed(0, 1, (0, 0, 0))), 0)
        self.assertEqual(size(deed(1, 4, (2, 3, 5))), 10)
        self.assertEqual(size(deed=deed(2, 1, (999999999, 1, 0))), 1000000000)
        self.assertIs(type(size(deed(1, 4, (2, 3, 5)))), int)

    def test_size_counts_the_note_and_nothing_else(self):
        self.assertEqual(size(deed(3, 2, (0, 0, 4, 1), ("use", "a", "b"))),
                         size(deed(2, 5, (0, 1, 4, 0), ("give", "c", "use", 3))))


class TestHasSeen(unittest.TestCase):
    def setUp(self):
        self.deed = deed(1, 4, (5, 3, 0, 1))

    def assertTold(self, told, expected):
        self.assertIs(told, expected)

    def test_at_the_number_of_the_note(self):
        for author, number in ((0, 5), (1, 3), (3, 1)):
            self.assertTold(has_seen(self.deed, (author, number)), True)

    def test_one_less(self):
        for author, number in ((0, 4), (1, 2)):
            self.assertTold(has_seen(self.deed, (author, number)), True)

    def test_one_more(self):
        for author, number in ((0, 6), (1, 4), (2, 1), (3, 2)):
            self.assertTold(has_seen(self.deed, (author, number)), False)

    def test_the_first_and_far_above(self):
        self.assertTold(has_seen(self.deed, (0, 1)), True)
        self.assertTold(has_seen(self.deed, (0, 999999999)), False)

    def test_itself_is_not_seen(self):
        self.assertTold(has_seen(self.deed, mark(self.deed)), False)
        self.assertTold(has_seen(deed(0, 1, (0, 0)), (0, 1)), False)

    def test_numbers_count_from_one(self):
        for number in (0, -1, -5):
            for author in range(4):
                self.assertTold(has_seen(self.deed, (author, number)), False)

    def test_of_one_who_has_no_number_in_the_note(self):
        for author in (-1, -4, -5, 4, 99):
            self.assertTold(has_seen(self.deed, (author, 1)), False)

    def test_by_names(self):
        self.assertTold(has_seen(deed=self.deed, mark=(0, 5)), True)
        self.assertTold(has_seen(mark=(0, 6), deed=self.deed), False)
        self.assertTold(has_seen(self.deed, mark=(1, 3)), True)

    def test_whatever_is_done(self):
        for what in (("give", "a", "use", 3), ("take", "a", "lead", 2), ("use", "a", "b")):
            self.assertTold(has_seen(deed(1, 4, (5, 3, 0, 1), what), (0, 5)), True)
            self.assertTold(has_seen(deed(1, 4, (5, 3, 0, 1), what), (0, 6)), False)


class TestInOrder(unittest.TestCase):
    def assertOrder(self, *expected):
        for seed in range(12):
            self.assertEqual(in_order(shuffled(expected, seed)), list(expected))
        self.assertEqual(in_order(list(reversed(expected))), list(expected))

    def test_by_size_ahead_of_author_and_number(self):
        self.assertOrder(deed(2, 9, (0, 0, 8)), deed(1, 3, (7, 2, 0)), deed(0, 1, (0, 6, 4)))

    def test_by_author_where_sizes_are_alike(self):
        self.assertOrder(deed(0, 5, (4, 0, 0)), deed(1, 3, (2, 2, 0)), deed(2, 1, (3, 1, 0)))

    def test_by_number_where_sizes_and_authors_are_alike(self):
        self.assertOrder(deed(1, 1, (4, 0, 0)), deed(1, 2, (2, 1, 1)), deed(1, 5, (0, 4, 0)))

    def test_by_size_where_authors_are_alike(self):
        self.assertOrder(deed(1, 5, (0, 4, 0)), deed(1, 2, (9, 1, 0)))

    def test_by_size_where_numbers_are_alike(self):
        self.assertOrder(deed(2, 3, (0, 0, 2)), deed(0, 3, (2, 1, 0)))

    def test_by_author_where_numbers_are_alike_too(self):
        self.assertOrder(deed(0, 2, (1, 0, 1)), deed(1, 2, (0, 1, 1)), deed(2, 2, (1, 0, 1)))

    def test_all_three_by_turns(self):
        self.assertOrder(deed(0, 1, (0, 0)), deed(1, 1, (0, 0)),
                         deed(0, 2, (1, 0)), deed(1, 1, (1, 0)), deed(1, 2, (0, 1)),
                         deed(0, 2, (1, 1)), deed(1, 3, (0, 2)),
                         deed(0, 11, (10, 0)), deed(1, 2, (9, 1)), deed(1, 10, (1, 9)))

    def test_numbers_go_by_worth(self):
        self.assertOrder(deed(0, 9, (8, 2)), deed(0, 10, (9, 1)),
                         deed(0, 100000000, (99999999, 0)), deed(0, 999999999, (999999998, 0)))

    def test_what_is_done_counts_for_nothing(self):
        give, take, use = ("give", "a", "use", 1), ("take", "a", "use", 1), ("use", "z", "z")
        for first, second in ((give, use), (use, give), (take, give), (use, take)):
            self.assertOrder(deed(0, 1, (0, 0), first), deed(0, 2, (1, 0), second))

    def test_none_and_one(self):
        self.assertEqual(in_order([]), [])
        self.assertEqual(in_order([deed(0, 1, (0,))]), [deed(0, 1, (0,))])

    def test_by_name(self):
        one, other = deed(0, 1, (0, 0)), deed(1, 1, (1, 0))
        self.assertEqual(in_order(deeds=[other, one]), [one, other])

    def test_a_new_list_each_time(self):
        for handed in ([], [deed(0, 1, (0,))], [deed(0, 1, (0,)), deed(0, 2, (1,))]):
            one, other = in_order(handed), in_order(handed)
            self.assertIs(type(one), list)
            self.assertIsNot(one, handed)
            self.assertIsNot(one, other)

    def test_of_the_very_deeds(self):
        deeds = grown(3, 20, 1)
        known = {mark(one): one for one in deeds}
        for told in in_order(shuffled(deeds, 4)):
            self.assertIs(told, known[mark(told)])

    def test_the_list_handed_in_stays(self):
        handed = [deed(1, 1, (1, 0)), deed(0, 2, (1, 0)), deed(0, 1, (0, 0))]
        before = copy.deepcopy(handed)
        in_order(handed)
        self.assertEqual(handed, before)

    def test_a_told_list_that_is_changed_changes_nothing(self):
        handed = [deed(1, 1, (1, 0)), deed(0, 1, (0, 0))]
        before = list(handed)
        told = in_order(handed)
        told.clear()
        self.assertEqual(handed, before)
        told = in_order(handed)
        told[0] = None
        self.assertEqual(in_order(handed), [deed(0, 1, (0, 0)), deed(1, 1, (1, 0))])

    def test_a_list_handed_in_that_is_changed_changes_nothing(self):
        handed = [deed(1, 1, (1, 0)), deed(0, 1, (0, 0))]
        told = in_order(handed)
        handed.clear()
        self.assertEqual(told, [deed(0, 1, (0, 0)), deed(1, 1, (1, 0))])


class TestManyDeeds(unittest.TestCase):
    def test_the_order_of_many(self):
        for members in (1, 2, 6):
            deeds = grown(members, 120, members)
            expected = sorted(deeds, key=lambda one: (sum(one[2]), one[0], one[1]))
            for seed in range(5):
                self.assertEqual(in_order(shuffled(deeds, seed)), expected)
            self.assertEqual(in_order(expected), expected)

    def test_each_stands_behind_all_that_it_has_seen(self):
        for members in (1, 2, 3, 6):
            told = in_order(shuffled(grown(members, 120, members + 10), 3))
            self.assertEqual(len(told), 120)
            for at, one in enumerate(told):
                for later in told[at:]:
                    self.assertIs(has_seen(one, mark(later)), False)

    def test_the_size_is_how_many_it_has_seen(self):
        for members in (1, 3, 6):
            deeds = grown(members, 120, members + 20)
            for one in deeds:
                seen = [other for other in deeds if has_seen(one, mark(other))]
                self.assertEqual(len(seen), size(one))

    def test_what_a_seen_deed_has_seen_is_seen(self):
        deeds = grown(6, 120, 31)
        for one in deeds:
            for other in deeds:
                if has_seen(one, mark(other)):
                    self.assertTrue(all(low <= high for low, high in zip(other[2], one[2])))
                    self.assertLess(size(other), size(one))


if __name__ == "__main__":
    unittest.main()

"""Promise [7]: which deeds are refused."""

import copy
import unittest

from firmroll.deeds import look, mark
from firmroll.errors import NoDeed
from tests.houses import deed, grown


class TestLook(unittest.TestCase):
    def assertGood(self, members, good):
        before = copy.deepcopy(good)
        self.assertIsNone(look(members, good))
        self.assertEqual(good, before)

    def assertRefused(self, members, bad):
        before = copy.deepcopy(bad)
        with self.assertRaises(NoDeed) as caught:
            look(members, bad)
        self.assertIs(type(caught.exception), NoDeed)
        self.assertEqual(caught.exception.what, (bad[0], bad[1]))
        self.assertIs(type(caught.exception.what), tuple)
        self.assertEqual(bad, before)

    def test_good_ones(self):
        self.assertGood(1, deed(0, 1, (0,)))
        self.assertGood(3, deed(1, 4, (2, 3, 5)))
        self.assertGood(3, deed(0, 1, (0, 7, 0), ("give", "roof", "use", 1)))
        self.assertGood(3, deed(1, 2, (0, 1, 0), ("take", "roof", "lead", 2)))
        self.assertGood(6, deed(5, 999999999, (999999999, 0, 0, 0, 0, 999999998)))

    def test_by_names(self):
        self.assertIsNone(look(members=2, deed=deed(1, 1, (0, 0))))
        self.assertIsNone(look(deed=deed(1, 1, (0, 0)), members=2))
        with self.assertRaises(NoDeed):
            look(deed=deed(2, 1, (0, 0)), members=2)

    def test_all_of_grown_houses_are_good(self):
        for members in (1, 2, 6):
            for one in grown(members, 120, members):
                self.assertGood(members, one)

    def test_an_author_below_0(self):
        for author in (-1, -2, -3, -4, -999999999):
            self.assertRefused(3, deed(author, 1, (0, 0, 0)))
        self.assertGood(3, deed(0, 1, (0, 0, 0)))

    def test_an_author_of_the_number_of_members(self):
        for members in (1, 2, 6):
            self.assertRefused(members, deed(members, 1, (0,) * members))
            self.assertRefused(members, deed(members, 1, (0,) * (members + 1)))
            self.assertGood(members, deed(members - 1, 1, (0,) * members))

    def test_an_author_far_above(self):
        for author in (4, 10, 999999999):
            self.assertRefused(3, deed(author, 1, (0, 0, 0)))

    def test_a_number_below_1(self):
        for number in (0, -1, -999999999):
            self.assertRefused(2, deed(0, number, (number - 1, 0)))
            self.assertRefused(2, deed(0, number, (0, 0)))
        self.assertGood(2, deed(0, 1, (0, 0)))

    def test_a_note_too_short(self):
        self.assertRefused(3, deed(0, 1, (0, 0)))
        self.assertRefused(3, deed(2, 1, (0, 0)))
        self.assertRefused(6, deed(5, 3, (2,)))
        self.assertGood(3, deed(2, 1, (0, 0, 0)))

    def test_a_note_too_long(self):
        self.assertRefused(3, deed(0, 1, (0, 0, 0, 0)))
        self.assertRefused(1, deed(0, 2, (1, 0)))

    def test_an_empty_note(self):
        for members in (1, 3):
            self.assertRefused(members, deed(0, 1, ()))
            self.assertRefused(members, deed(members - 1, 1, ()))

    def test_a_number_below_0_in_the_note(self):
        self.assertRefused(3, deed(0, 1, (0, -1, 0)))
        self.assertRefused(3, deed(0, 1, (0, 5, -999999999)))
        self.assertRefused(3, deed(2, 2, (-1, 0, 1)))
        self.assertGood(3, deed(0, 1, (0, 0, 0)))

    def test_another_number_than_the_one_ahead_for_the_author(self):
        for author in range(3):
            for own in (0, 1, 2, 4, 5, 999999999):
                note = [7, 7, 7]
                note[author] = own
                self.assertRefused(3, deed(author, 4, note))
            note[author] = 3
            self.assertGood(3, deed(author, 4, note))
        self.assertRefused(1, deed(0, 1, (1,)))
        self.assertRefused(1, deed(0, 2, (0,)))

    def test_given_to_or_taken_from(self):
        for members in (1, 2, 3, 6):
            for author in range(members):
                for member in range(-members - 1, members + 3):
                    for word in ("give", "take"):
                        for kind in ("use", "lead"):
                            one = deed(author, 1, (0,) * members, (word, "roof", kind, member))
                            if author < member < members:
                                self.assertGood(members, one)
                            else:
                                self.assertRefused(members, one)

    def test_given_to_or_taken_from_one_far_above(self):
        for word in ("give", "take"):
            self.assertRefused(3, deed(0, 1, (0, 0, 0), (word, "roof", "use", 999999999)))
            self.assertRefused(3, deed(0, 1, (0, 0, 0), (word, "roof", "use", -999999999)))

    def test_any_member_may_use(self):
        for author in range(6):
            self.assertGood(6, deed(author, 1, (0,) * 6, ("use", "abcdefgh", "a")))

    def test_several_at_once_are_one_refusal(self):
        self.assertRefused(2, deed(-1, 0, (), ("give", "a", "use", -1)))
        self.assertRefused(2, deed(9, -9, (-1,), ("take", "a", "lead", 9)))

    def test_the_mark_is_that_of_the_deed(self):
        bad = deed(1, 5, (0, 3))
        with self.assertRaises(NoDeed) as caught:
            look(2, bad)
        self.assertEqual(caught.exception.what, mark(bad))

    def test_what_is_refused_is_refused_again(self):
        bad, good = deed(1, 5, (0, 3)), deed(1, 5, (0, 4))
        for _ in range(3):
            self.assertRefused(2, bad)
            self.assertGood(2, good)


if __name__ == "__main__":
    unittest.main()

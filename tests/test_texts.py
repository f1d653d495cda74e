"""Promise [19]: deeds and rolls written, and read back."""

import random

from firmroll.errors import NoText
from firmroll.readings import read_deed, read_roll
from firmroll.rolls import Roll
from firmroll.texts import show_deed, show_roll
from tests.hands import HandCase, everything, give, heard, take, use
from tests.houses import busy, deed, grown, shuffled

WRITTEN = (
    (deed(0, 1, (0,), use("a", "b")), "0.1 seen 0 use b a"),
    (deed(1, 4, (2, 3, 5), give(2)), "1.4 seen 2.3.5 give roof use 2"),
    (deed(1, 4, (2, 3, 5), give(2, "lead", "door")), "1.4 seen 2.3.5 give door lead 2"),
    (deed(0, 1, (0, 0), take(1)), "0.1 seen 0.0 take roof use 1"),
    (deed(0, 2, (1, 0), take(1, "lead", "z")), "0.2 seen 1.0 take z lead 1"),
    (deed(5, 10, (0, 0, 0, 0, 100, 9), use("abcdefgh", "stuvwxyz")),
     "5.10 seen 0.0.0.0.100.9 use stuvwxyz abcdefgh"),
    (deed(0, 999999999, (999999998, 999999999), give(1)),
     "0.999999999 seen 999999998.999999999 give roof use 1"),
    # Powers and words that are words of the writing itself.
    (deed(0, 1, (0, 0), give(1, "use", "use")), "0.1 seen 0.0 give use use 1"),
    (deed(0, 1, (0, 0), take(1, "lead", "seen")), "0.1 seen 0.0 take seen lead 1"),
    (deed(0, 1, (0, 0), use("take", "give")), "0.1 seen 0.0 use give take"),
    (deed(0, 1, (0, 0), use("seen", "use")), "0.1 seen 0.0 use use seen"),
)

# Deeds of the form of (5) that (7) would refuse.
LOOSE = (
    (deed(7, 1, (0, 0)), "7.1 seen 0.0 use roof slate"),
    (deed(0, 5, (0, 0)), "0.5 seen 0.0 use roof slate"),
    (deed(999999999, 1, (3,)), "999999999.1 seen 3 use roof slate"),
    (deed(1, 1, (0, 0), give(0)), "1.1 seen 0.0 give roof use 0"),
    (deed(1, 1, (0, 0), take(1)), "1.1 seen 0.0 take roof use 1"),
    (deed(1, 1, (0, 0), take(999999999)), "1.1 seen 0.0 take roof use 999999999"),
    (deed(0, 1, (0, 0, 0, 0, 0, 0, 0, 0)), "0.1 seen 0.0.0.0.0.0.0.0 use roof slate"),
)

NO_DEEDS = (
    "", " ", "0.1", "0.1 seen", "0.1 seen 0", "0.1 seen 0 use", "0.1 seen 0 use roof",
    "0.1 seen 0 use roof slate ", " 0.1 seen 0 use roof slate", "0.1  seen 0 use roof slate",
    "0.1 seen 0 use roof slate oak", "0.1 seen 0 use  slate", "0.1 seen 0  roof slate",
    "0.1 seen 0 use roof ", "0.1 seen  use roof slate", "0.1 seen use roof slate",
    "0.1  0 use roof slate", "seen 0 use roof slate", " seen 0 use roof slate",
    "0.1 Seen 0 use roof slate", "0.1 saw 0 use roof slate", "0.1 seen 0 Use roof slate",
    "0.1 seen 0 uses roof slate", "0.1 seen 0 wish roof slate", "0.1 seen 0 USE roof slate",
    "0 seen 0 use roof slate", "0.1.1 seen 0 use roof slate", ".1 seen 0 use roof slate",
    "0. seen 0 use roof slate", "0.1. seen 0 use roof slate", "0,1 seen 0 use roof slate",
    "00.1 seen 0 use roof slate", "0.01 seen 0 use roof slate", "01.1 seen 0 use roof slate",
    "-1.1 seen 0 use roof slate", "0.-1 seen 0 use roof slate", "+0.1 seen 0 use roof slate",
    "0.1 seen 00 use roof slate", "0.1 seen 01 use roof slate", "0.1 seen 0.00 use roof slate",
    "0.1 seen 0. use roof slate", "0.1 seen .0 use roof slate", "0.1 seen 0..0 use roof slate",
    "0.1 seen 0,0 use roof slate", "0.1 seen -1 use roof slate", "0.1 seen 0.-1 use roof slate",
    "0.1 seen +1 use roof slate", "0.1 seen a use roof slate", "0.1 seen 0.x use roof slate",
    "0.1 seen 1_0 use roof slate", "1_0.1 seen 0 use roof slate", "a.1 seen 0 use roof slate",
    "0.1 seen 1000000000 use roof slate", "1000000000.1 seen 0 use roof slate",
    "0.1000000000 seen 0 use roof slate", "0.1 seen 0.1000000000 use roof slate",
    "0.1 seen 0 use Roof slate", "0.1 seen 0 use roof Slate", "0.1 seen 0 use roof slatE",
    "0.1 seen 0 use ro-of slate", "0.1 seen 0 use roof sl4te", "0.1 seen 0 use 1 slate",
    "0.1 seen 0 use roof 7", "0.1 seen 0 use roof sl_te", "0.1 seen 0 use ROOF slate",
    "0.1 seen 0 use roof slate;", "0.1 seen 0 use roof slate.", "0.1 seen 0 use roof 'slate'",
    "0.1 seen 0 give roof use", "0.1 seen 0 give roof 1", "0.1 seen 0 give roof use 1 2",
    "0.1 seen 0 give roof Use 1", "0.1 seen 0 give roof give 1", "0.1 seen 0 give roof uses 1",
    "0.1 seen 0 give roof  1", "0.1 seen 0 give  use 1", "0.1 seen 0 give roof use ",
    "0.1 seen 0 give roof use x", "0.1 seen 0 give roof use -1", "0.1 seen 0 give roof use 01",
    "0.1 seen 0 give roof use 1.0", "0.1 seen 0 give roof use +1", "0.1 seen 0 give 1 use 1",
    "0.1 seen 0 give roof use 1000000000", "0.1 seen 0 give Roof lead 1",
    "0.1 seen 0 take roof kind 1", "0.1 seen 0 take roof lead", "0.1 seen 0 take roof lead 00",
    "0.1 seen 0 use roof slate 1", "0.1 seen 0 use roof use 1", "0.1 seen 0 give roof slate",
    "1; 0.1 seen 0 use roof slate", "0.1 seen 0 use roof slate; 0.2 seen 1 use roof slate",
    "~", "0.1 seen 0 use roof ~", "1 0.1 seen 0 use roof slate",
)


class TestDeeds(HandCase):
    def test_written(self):
        for one, text in WRITTEN + LOOSE:
            self.assertEqual(show_deed(one), text)
            self.assertEqual(show_deed(deed=one), text)

    def test_read_back(self):
        for one, text in WRITTEN + LOOSE:
            told = read_deed(text)
            self.assertEqual(told, one)
            self.assertEqual(read_deed(text=text), one)
            self.assertIs(type(told), tuple)
            self.assertEqual([type(part) for part in told], [int, int, tuple, tuple])
            self.assertEqual({type(number) for number in told[2]}, {int})
            self.assertEqual([type(part) for part in told[3]], [type(part) for part in one[3]])

    def test_many(self):
        for members in (1, 2, 6):
            for one in grown(members, 120, members) + busy(members, 120, members):
                self.assertEqual(read_deed(show_deed(one)), one)

    def test_texts_that_write_none(self):
        for text in NO_DEEDS:
            self.assertRefused(NoText, text, lambda: read_deed(text))
            self.assertRefused(NoText, text, lambda: read_deed(text=text))

    def test_bent_sign_by_sign(self):
        chance = random.Random(3)
        for one, text in WRITTEN + LOOSE:
            for at in range(len(text) + 1):
                for sign in " .;-+_019azAZ~" + chance.choice("bcdefgh"):
                    for bent in (text[:at] + sign + text[at:], text[:at] + sign + text[at + 1:]):
                        self.assertReads(bent)
                self.assertReads(text[:at] + text[at + 1:])
                self.assertReads(text[:at])

    def test_bent_word_by_word(self):
        for one, text in WRITTEN + LOOSE:
            words = text.split(" ")
            for at in range(len(words)):
                self.assertReads(" ".join(words[:at] + words[at + 1:]))
                for word in ("", "0", "01", "1.1", "1", "seen", "use", "give", "lead", "a", "A"):
                    self.assertReads(" ".join(words[:at] + [word] + words[at + 1:]))
                    self.assertReads(" ".join(words[:at] + [word] + words[at:]))

    def assertReads(self, text):
        """A text is either the writing of what is read, or refused."""
        if any(len(word) > 8 and is_name(word) for word in text.split(" ")):
            return  # Names of more letters are not handed in.
        try:
            told = read_deed(text)
        except NoText as caught:
            self.assertEqual(caught.what, text)
            self.assertFalse(writes(text), text)
        else:
            self.assertEqual(show_deed(told), text)
            self.assertTrue(writes(text), text)


def is_number(word):
    return word == "0" or (0 < len(word) < 10 and word[0] != "0"
                           and not set(word) - set("0123456789"))


def is_name(word):
    return word != "" and not set(word) - set("abcdefghijklmnopqrstuvwxyz")


def writes(text):
    """Whether a text writes a deed, by the form of the document."""
    words = text.split(" ")
    if len(words) not in (6, 7) or words[1] != "seen":
        return False
    first = words[0].split(".")
    if len(first) != 2 or not all(map(is_number, first + words[2].split("."))):
        return False
    if len(words) == 6:
        return words[3] == "use" and is_name(words[4]) and is_name(words[5])
    return (words[3] in ("give", "take") and is_name(words[4]) and words[5] in ("use", "lead")
            and is_number(words[6]))


class TestRolls(HandCase):
    def setUp(self):
        self.deeds = [deed(0, 1, (0, 0, 0), give(1)), deed(2, 1, (0, 0, 0), use("tin")),
                      deed(0, 2, (1, 0, 0), take(2, "lead", "door")),
                      deed(1, 1, (1, 0, 0), use("oak"))]
        self.late = [deed(0, 9, (8, 0, 0), use("z")), deed(1, 3, (9, 2, 0), give(2)),
                     deed(2, 3, (0, 0, 2), use("y"))]
        self.text = ("3; 0.1 seen 0.0.0 give roof use 1; 2.1 seen 0.0.0 use roof tin; "
                     "0.2 seen 1.0.0 take door lead 2; 1.1 seen 1.0.0 use roof oak")
        self.waits = ("; 0.9 seen 8.0.0 use roof z; 1.3 seen 9.2.0 give roof use 2; "
                      "2.3 seen 0.0.2 use roof y")

    def assertNoText(self, text):
        self.assertRefused(NoText, text, lambda: read_roll(text))
        self.assertRefused(NoText, text, lambda: read_roll(text=text))

    def test_written(self):
        for seed in range(5):
            roll = heard(3, shuffled(self.deeds, seed))
            self.assertEqual(show_roll(roll), self.text)
            self.assertEqual(show_roll(roll=roll), self.text)
            roll = heard(3, shuffled(self.deeds + self.late, seed))
            self.assertEqual(show_roll(roll), self.text + self.waits)
            roll = heard(3, shuffled(self.late, seed))
            self.assertEqual(show_roll(roll), "3" + self.waits)

    def test_written_of_nothing(self):
        for members in (1, 2, 6):
            self.assertEqual(show_roll(Roll(members)), str(members))

    def test_writing_changes_nothing(self):
        roll = heard(3, self.deeds + self.late)
        before = everything(roll)
        show_roll(roll)
        self.assertEqual(everything(roll), before)

    def test_read_back(self):
        for deeds, text in (([], "3"), (self.deeds, self.text), (self.late, "3" + self.waits),
                            (self.deeds + self.late, self.text + self.waits)):
            told = read_roll(text)
            self.assertIs(type(told), Roll)
            self.assertEqual(everything(told), everything(heard(3, deeds)))
            self.assertEqual(show_roll(told), text)
            self.assertTrue(read_roll(text=text) == told)

    def test_read_back_of_nothing(self):
        for members in (1, 2, 6, 10):
            told = read_roll(str(members))
            self.assertEqual((told.members(), len(told), told.waiting()), (members, 0, []))

    def test_each_reading_is_a_roll_of_its_own(self):
        one, other = read_roll(self.text), read_roll(self.text)
        one.hear(deed(2, 2, (0, 0, 1)))
        self.assertEqual((len(one), len(other)), (5, 4))

    def test_many(self):
        for members in (1, 2, 3, 6):
            for seed in range(3):
                world = busy(members, 60, seed * 19 + members)
                for part in (world, shuffled(world, seed)[:40], world[20:]):
                    roll = heard(members, part)
                    told = read_roll(show_roll(roll))
                    self.assertTrue(told == roll)
                    self.assertEqual(everything(told), everything(roll))

    def test_a_long_one(self):
        roll = heard(6, grown(6, 120, 3))
        self.assertEqual(everything(read_roll(show_roll(roll))), everything(roll))

    def test_texts_that_write_none(self):
        for text in ("", " ", "a", "x; 0.1 seen 0 use roof a", "3;", "3; ", " 3", "3 ", "03", "-1",
                     "+3", "3.0", "1_0", "1000000000", "; ", ";", "; 3", "3,", "three", "0x3",
                     "1; 0.1 seen 0 use roof a;", "1; 0.1 seen 0 use roof a; ",
                     "1;0.1 seen 0 use roof a", "1;  0.1 seen 0 use roof a",
                     "1 ; 0.1 seen 0 use roof a", "1; ; 0.1 seen 0 use roof a",
                     "1, 0.1 seen 0 use roof a", "1 0.1 seen 0 use roof a",
                     "0.1 seen 0 use roof a", "01; 0.1 seen 0 use roof a",
                     "; 0.1 seen 0 use roof a", "1; 0.1 seen 0 use roof a;0.2 seen 1 use roof a",
                     "1; 0.1 seen 0 use roof a 0.2 seen 1 use roof a", "1; 1",
                     "1; 0.1 seen 0 use roof a; 1"):
            self.assertNoText(text)

    def test_what_writes_no_deed(self):
        for text in NO_DEEDS:
            if not writes(text.split("; ")[-1]):
                self.assertNoText("1; " + text)
                self.assertNoText("1; 0.1 seen 0 use roof a; " + text)

    def test_of_no_members(self):
        self.assertNoText("0")
        self.assertNoText("0; 0.1 seen 0 use roof a")

    def test_a_deed_that_is_refused(self):
        for text in ("2; 2.1 seen 0.0 use roof a", "2; 0.0 seen 0.0 use roof a",
                     "2; 0.1 seen 0 use roof a", "2; 0.1 seen 0.0.0 use roof a",
                     "2; 0.1 seen 1.0 use roof a", "2; 0.2 seen 0.0 use roof a",
                     "2; 0.1 seen 0.0 give roof use 0", "2; 1.1 seen 0.0 give roof use 0",
                     "2; 0.1 seen 0.0 take roof use 2", "1; 0.1 seen 0.0 use roof a",
                     "2; 0.1 seen 0.0 use roof a; 1.1 seen 0.0 take roof lead 1"):
            self.assertNoText(text)

    def test_two_faced_deeds(self):
        for text in ("2; 0.1 seen 0.0 use roof a; 0.1 seen 0.0 use roof b",
                     "2; 0.1 seen 0.0 use roof a; 0.1 seen 0.1 use roof a",
                     "2; 0.2 seen 1.0 use roof a; 0.2 seen 1.0 use roof b"):
            self.assertNoText(text)

    def test_a_deed_that_stands_twice(self):
        for text in ("2; 0.1 seen 0.0 use roof a; 0.1 seen 0.0 use roof a",
                     "2; 0.2 seen 1.0 use roof a; 0.2 seen 1.0 use roof a",
                     "2; 0.1 seen 0.0 use roof a; 1.1 seen 0.0 use roof b; "
                     "0.1 seen 0.0 use roof a"):
            self.assertNoText(text)

    def test_another_order(self):
        parts = (self.text + self.waits).split("; ")
        for at in range(1, len(parts) - 1):
            turned = parts[:at] + [parts[at + 1], parts[at]] + parts[at + 2:]
            self.assertNoText("; ".join(turned))
        for text in ("2; 1.1 seen 1.0 use roof a; 0.1 seen 0.0 use roof a",
                     "2; 1.2 seen 0.1 use roof a; 0.2 seen 1.0 use roof a"):
            self.assertNoText(text)
            first, second = text.split("; ")[1:]
            read_roll(f"2; {second}; {first}")

    def test_bent_sign_by_sign(self):
        text = self.text + self.waits
        for at in range(len(text) + 1):
            for sign in " .;019azA~":
                self.assertReads(text[:at] + sign + text[at:])
                self.assertReads(text[:at] + sign + text[at + 1:])
            self.assertReads(text[:at] + text[at + 1:])
            self.assertReads(text[:at])

    def test_bent_word_by_word(self):
        words = (self.text + self.waits).split(" ")
        for at in range(len(words)):
            self.assertReads(" ".join(words[:at] + words[at + 1:]))
            self.assertReads(" ".join(words[:at + 1] + words[at:]))
            for word in ("0", "1;", "0.1", "use", "lead", "seen", "0.0.0", "1.0.0", "oak;"):
                self.assertReads(" ".join(words[:at] + [word] + words[at + 1:]))

    def test_bent_deed_by_deed(self):
        parts = (self.text + self.waits).split("; ")
        for at in range(len(parts)):
            self.assertReads("; ".join(parts[:at] + parts[at + 1:]))
            for other in range(1, len(parts)):
                self.assertReads("; ".join(parts[:at] + [parts[other]] + parts[at:]))
                self.assertReads("; ".join(parts[:at] + [parts[other]] + parts[at + 1:]))

    def assertReads(self, text):
        """A text is either the writing of the roll that it makes, or refused with it."""
        try:
            told = read_roll(text)
        except NoText as caught:
            self.assertEqual(caught.what, text)
            self.assertIs(type(caught), NoText)
            self.assertFalse(self.is_written(text), text)
        else:
            self.assertEqual(show_roll(told), text)
            self.assertTrue(self.is_written(text), text)

    def is_written(self, text):
        """Whether a text writes a roll, by hearing its parts one by one."""
        first, *parts = text.split("; ")
        if not is_number(first) or first == "0" or not all(map(writes, parts)):
            return False
        roll, deeds = Roll(int(first)), []
        for part in parts:
            one = plain_deed(part.split(" "))
            try:
                roll.hear(one)
            except ValueError:
                return False
            deeds.append(one)
        return roll.deeds() + roll.waiting() == deeds


def plain_deed(words):
    author, number = map(int, words[0].split("."))
    what = words[3:]
    if len(what) == 4:
        what[3] = int(what[3])
    return author, number, tuple(map(int, words[2].split("."))), tuple(what)

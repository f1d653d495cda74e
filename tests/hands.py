"""Hands for the tests: rolls, what they tell, and whether a refusal changes it."""

import unittest

from firmroll.deeds import mark
from firmroll.rolls import Roll

POWERS = ("roof", "door", "well")
KINDS = ("use", "lead")


def give(member, kind="use", power="roof"):
    return ("give", power, kind, member)


def take(member, kind="use", power="roof"):
    return ("take", power, kind, member)


def use(word="slate", power="roof"):
    return ("use", power, word)


def heard(members, deeds):
    roll = Roll(members)
    for one in deeds:
        roll.hear(one)
    return roll


def marks_of(deeds):
    return [mark(one) for one in deeds]


def standing(roll):
    return {mark(one): roll.stands(mark(one)) for one in roll.deeds()}


def everything(roll):
    """All that a roll tells, as values that are the test's own."""
    members = range(roll.members())
    deeds = roll.deeds()
    marks = marks_of(deeds)
    return {
        "members": roll.members(),
        "len": len(roll),
        "deeds": deeds,
        "waiting": roll.waiting(),
        "notes": [roll.note(member) for member in members],
        "next": [roll.next_deed(member, use()) for member in members],
        "stands": [roll.stands(own) for own in marks],
        "has": [(member, power, kind, roll.has(member, power, kind))
                for member in members for power in POWERS for kind in KINDS],
        "settled": [roll.is_settled(own) for own in marks],
        "waits": [roll.waits_for(own) for own in marks],
        "text": roll.text(),
        "firm": roll.firm(),
        "firm text": roll.firm_text(),
        "firm waits": [roll.firm_waits(mark(one)) for one in deeds if one[3][0] == "use"],
        "papers": [roll.paper(own) for own in marks],
    }


class HandCase(unittest.TestCase):
    def assertRefused(self, refusal, what, call, *rolls):
        """The call is refused with just this, and none of the rolls tells anything else."""
        before = [everything(roll) for roll in rolls]
        for _ in range(2):
            with self.assertRaises(refusal) as caught:
                call()
            self.assertIs(type(caught.exception), refusal)
            self.assertEqual(caught.exception.what, what)
            self.assertIs(type(caught.exception.what), type(what))
        self.assertEqual([everything(roll) for roll in rolls], before)

    def assertChanges(self, roll, call):
        """What the call tells is what came and what changed; it is told again."""
        before = standing(roll)
        told = call()
        self.assertIs(type(told), tuple)
        came, changed = told
        self.assertEqual((type(came), type(changed)), (list, list))
        after, order = standing(roll), marks_of(roll.deeds())
        self.assertEqual(came, [own for own in order if own not in before])
        self.assertEqual(changed, [own for own in order
                                   if own in before and before[own] != after[own]])
        return told

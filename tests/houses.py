"""Deeds for the tests: single ones, and whole houses with closed notes."""

import random

USE = ("use", "roof", "slate")


def deed(author, number, seen, what=USE):
    return (author, number, tuple(seen), what)


def grown(members, many, seed):
    """So many deeds with closed notes, in the order in which they were done."""
    chance = random.Random(seed)
    notes = [[0] * members for _ in range(members)]
    deeds = []
    for _ in range(many):
        author = chance.randrange(members)
        met = chance.randrange(members)
        if chance.random() < 0.6:
            # To have all of another note beside one's own keeps the note closed.
            notes[author] = [max(pair) for pair in zip(notes[author], notes[met])]
        note = tuple(notes[author])
        deeds.append((author, note[author] + 1, note, _some_what(chance, members, author)))
        notes[author][author] += 1
    return deeds


def _some_what(chance, members, author):
    power = chance.choice(("roof", "door"))
    word = chance.choice(("give", "take", "use"))
    if word == "use" or author == members - 1:
        return ("use", power, chance.choice(("slate", "oak", "a")))
    return (word, power, chance.choice(("use", "lead")), chance.randrange(author + 1, members))


def shuffled(items, seed):
    items = list(items)
    random.Random(seed).shuffle(items)
    return items

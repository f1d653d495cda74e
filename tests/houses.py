"""Deeds for the tests: single ones, and whole houses with closed notes."""

import random

USE = ("use", "roof", "slate")


def deed(author, number, seen, what=USE):
    return (author, number, tuple(seen), what)


def grown(members, many, seed):
    """So many deeds with closed notes, in the order in which they were done."""
    chance = random.Random(seed)
    notes = [[0] * members for _ in range(members)]
    deeds = []
    for _ in range(many):
        author = chance.randrange(members)
        met = chance.randrange(members)
        if chance.random() < 0.6:
            # To have all of another note beside one's own keeps the note closed.
            notes[author] = [max(pair) for pair in zip(notes[author], notes[met])]
        note = tuple(notes[author])
        deeds.append((author, note[author] + 1, note, _some_what(chance, members, author)))
        notes[author][author] += 1
    return deeds


def _some_what(chance, members, author):
    power = chance.choice(("roof", "door"))
    word = chance.choice(("give", "take", "use"))
    if word == "use" or author == members - 1:
        return ("use", power, chance.choice(("slate", "oak", "a")))
    return (word, power, chance.choice(("use", "lead")), chance.randrange(author + 1, members))


def shuffled(items, seed):
    items = list(items)
    random.Random(seed).shuffle(items)
    return items


def busy(members, many, seed):
    """So many deeds with closed notes, in which rights go down through many hands.

    Whoever has given most is met most, so that much of what is done may be done.
    """
    chance = random.Random(seed)
    powers = ("roof", "roof", "roof", "door")[:chance.choice((1, 4))]
    meeting = chance.choice((0.4, 0.6, 0.8))
    words = (("give",) * chance.choice((3, 4)) + ("take",) * chance.choice((1, 2))
             + ("use",) * chance.choice((1, 3)))
    notes = [[0] * members for _ in range(members)]
    deeds = []
    for _ in range(many):
        author = chance.randrange(members)
        for _ in range(2):
            if chance.random() < meeting:
                met = chance.randrange(author + 1)
                notes[author] = [max(pair) for pair in zip(notes[author], notes[met])]
        note = tuple(notes[author])
        what = _busy_what(chance, members, author, powers, words)
        deeds.append((author, note[author] + 1, note, what))
        notes[author][author] += 1
        if chance.random() < 0.2:
            met = chance.randrange(members)
            notes[met] = [max(pair) for pair in zip(notes[met], notes[author])]
    return deeds


def _busy_what(chance, members, author, powers, words):
    power, word = chance.choice(powers), chance.choice(words)
    if word == "use" or author == members - 1:
        return ("use", power, chance.choice(("slate", "oak", "tin", "a", "lime")))
    member = min(author + chance.choice((1, 1, 2, 3)), members - 1)
    return (word, power, chance.choice(("use", "lead", "lead")), member)


def carried(deeds, seed):
    """The deeds in some order in which none comes ahead of what it has seen, takes late."""
    chance = random.Random(seed)
    left, order, here = list(deeds), [], set()
    while left:
        ready = [one for one in left if all(
            number == 0 or (member, number) in here for member, number in enumerate(one[2]))]
        early = [one for one in ready if one[3][0] != "take"]
        one = chance.choice(early or ready)
        left.remove(one)
        order.append(one)
        here.add(one[:2])
    return order

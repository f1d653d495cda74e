"""Rights: a right is a tuple (member, power, kind), of one member."""

KINDS = ("use", "lead")


def needed(deed):
    """The right that the author of a deed needs for it."""
    word, power = deed[3][:2]
    # The lead is for giving and taking alone, so a use wants its own kind.
    kind = "use" if word == "use" else "lead"
    return deed[0], power, kind


def meant(deed):
    """The right that a give or take gives or takes."""
    _, power, kind, member = deed[3]
    return member, power, kind

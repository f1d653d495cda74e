"""The refusals: each a class of its own, straight under RollError."""


class RollError(ValueError):
    """Any refusal."""


class NoMembers(RollError):
    """A number of members that a roll cannot have; what: that number."""

    def __init__(self, what):
        super().__init__(f"no such number of members: {what}")
        self.what = what


class NoDeed(RollError):
    """A deed that is refused as it stands; what: its mark."""

    def __init__(self, what):
        super().__init__(f"no good deed: {what}")
        self.what = what


class TwoFaced(RollError):
    """A deed unlike another one of its mark; what: that mark."""

    def __init__(self, what):
        super().__init__(f"two unlike deeds of one mark: {what}")
        self.what = what


class NoMember(RollError):
    """A number that is no member's; what: that number."""

    def __init__(self, what):
        super().__init__(f"no such member: {what}")
        self.what = what


class NoKind(RollError):
    """A kind of right that is neither use nor lead; what: that kind."""

    def __init__(self, what):
        super().__init__(f"no such kind: {what}")
        self.what = what


class NoMark(RollError):
    """A mark of no deed in the roll; what: that mark."""

    def __init__(self, what):
        super().__init__(f"no deed of this mark: {what}")
        self.what = what


class NoUse(RollError):
    """A give or take where a use is asked for; what: its mark."""

    def __init__(self, what):
        super().__init__(f"no use: {what}")
        self.what = what


class NoText(RollError):
    """A text that writes no deed or no roll; what: that text."""

    def __init__(self, what):
        super().__init__(f"no such text: {what}")
        self.what = what

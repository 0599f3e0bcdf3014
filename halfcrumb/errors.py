"""The refusals: each class stands straight beneath CrumbError.

A refusal that bears a value is made of it and keeps it by the name that the document gives.
"""


class CrumbError(ValueError):
    """Any refusal."""


class NoFraction(CrumbError):
    """A bottom of 0, or a quotient by nought."""


class NoText(CrumbError):
    """A text that is not written as what it is read as."""


class NoTable(CrumbError):
    """Stretches that make no table."""


class NoSpan(CrumbError):
    """A span, or a place, that does not lie on the loaf."""


class NoWorth(CrumbError):
    """A worth below nought."""


class NoHands(CrumbError):
    """A hand that is not there, or another count of hands than there may be."""


class Ended(CrumbError):
    """An answer to a way in which nothing is due."""


class NothingSaid(CrumbError):
    """No reply that could be taken away or added again."""


class NoName(CrumbError):
    """A text that is no name."""


class TooMany(CrumbError):
    """More than is gone through."""


class NothingDone(CrumbError):
    """No deed that could be taken back or done again."""


class NoWay(CrumbError):
    """A word that stands for no way of sharing."""


class NoReply(CrumbError):
    """A reply that is not legal to the ask that is due."""

    def __init__(self, ask):
        super().__init__("this is no legal reply to what is due")
        self.ask = ask


class NotEnded(CrumbError):
    """Shares that were asked for ahead of the end."""

    def __init__(self, many):
        super().__init__(f"the way has not ended: {many} replies stand")
        self.many = many


class Taken(CrumbError):
    """A name that stands for another thing already."""

    def __init__(self, name):
        super().__init__(f"{name} is taken")
        self.name = name


class NoWord(CrumbError):
    """A word by which nothing is kept."""

    def __init__(self, name):
        super().__init__(f"nothing is kept by {name}")
        self.name = name


class NoBeads(CrumbError):
    """A text that is no beads."""

    def __init__(self, at):
        super().__init__(f"no bead can be at {at}")
        self.at = at


class Odd(CrumbError):
    """A kind of beads that is there an odd number of times."""

    def __init__(self, kind):
        super().__init__(f"the beads {kind} are odd")
        self.kind = kind


class NoCut(CrumbError):
    """A cut that cannot be made, or that is not there."""

    def __init__(self, at):
        super().__init__(f"no such cut: {at}")
        self.at = at


class NoHand(CrumbError):
    """A name by which there is no hand."""

    def __init__(self, name):
        super().__init__(f"no such hand: {name}")
        self.name = name


class NoRun(CrumbError):
    """A name by which there is no run."""

    def __init__(self, name):
        super().__init__(f"no such run: {name}")
        self.name = name


class Seated(CrumbError):
    """A hand that a run has still."""

    def __init__(self, name):
        super().__init__(f"the hand is in the run {name}")
        self.name = name


class NoLine(CrumbError):
    """A line that has none of the forms."""

    def __init__(self, line):
        super().__init__(f"no such line: {line}")
        self.line = line

"""The errors of the package: all of them are PairErrors."""


class PairError(ValueError):
    """The base class of all errors of the package."""


class InvalidRule(PairError):
    """Rows, starts or a text that no rule has."""


class InvalidMix(PairError):
    """Parts, a weight or a factor that no mix has."""


class InvalidRows(PairError):
    """Rows or a text that no row set has."""


class InvalidClaim(PairError):
    """Rows or a text that no claim has."""


class TooGreat(PairError):
    """Something greater than the document allows."""


class Unordered(PairError):
    """A rule that does not order; marks and calls are its ring."""

    def __init__(self, marks, calls):
        super().__init__("the rule does not order")
        self.marks = tuple(marks)
        self.calls = tuple(calls)


class NoCase(PairError):
    """A name that is not in the list."""

    def __init__(self, name):
        super().__init__(f"no case in the list has the name {name}")
        self.name = name


class CaseThere(PairError):
    """A name that is in the list already."""

    def __init__(self, name):
        super().__init__(f"a case in the list has the name {name} already")
        self.name = name


class InvalidMark(PairError):
    """A mark that the rule does not have."""

    def __init__(self, mark):
        super().__init__("the rule does not have this mark")
        self.mark = mark


class InvalidMove(PairError):
    """A move of a rival to a place, or at a place, where it cannot be made."""

    def __init__(self, place):
        super().__init__("the move cannot be made to or at this place")
        self.place = place


class NoFactor(PairError):
    """A duel without a factor; lead and loop begin for these marks and show it."""

    def __init__(self, marks, lead, loop):
        super().__init__("a loop costs the side something and the rival nothing")
        self.marks = tuple(marks)
        self.lead = lead
        self.loop = loop


class Dearer(PairError):
    """A side whose mean cost exceeds that of another side without limit."""

    def __init__(self, lead, loop):
        super().__init__("a loop costs the first side more than the second one")
        self.lead = lead
        self.loop = loop

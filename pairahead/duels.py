"""Duels: a side against a rival on two cases, and the greatest ratio of what they pay in the long run."""

from pairahead.contests import mix_contest, rule_contest
from pairahead.errors import NoFactor
from pairahead.ratios import Ratio
from pairahead.rules import Rule
from pairahead.sides import parts_of, shares

MOST_NODES = 1000


class Duel:
    """A duel of a rule or a mix against a rival, within a row set if one is given."""

    def __init__(self, side, within=None):
        contest = _contest(side, within)
        free = contest.free_loop()
        if free is not None:
            begin, lead, loop = contest.told(free)
            raise NoFactor(_marks_at(side, begin), lead, loop)
        counts, whole = shares([weight for weight, _ in parts_of(side)], contest.sizes)
        best, top, bottom, gains = contest.best_loop(counts, 0, 1)
        # The two exchanges have the ratio 0.
        begin, self.lead, self.loop = contest.told(contest.exchanges() if best is None else best)
        self.marks = _marks_at(side, begin)
        # A gain of this number is an excess of 1.
        self.unit = bottom * whole
        self.factor = Ratio(top, self.unit)
        self.most = Ratio(max([int(gain) for gain in gains]), self.unit)
        self.size = len(gains)
        self.gains = gains
        self.numbers = contest.graph.numbers

    def excess(self, node):
        """Return the excess of a node that can be reached."""
        return Ratio(self.gains[self.numbers[node]], self.unit)


def _contest(side, within):
    if isinstance(side, Rule):
        return rule_contest(side, within, MOST_NODES)
    return mix_contest([rule for _, rule in side.parts], within, MOST_NODES)


def _marks_at(side, begin):
    """Return the marks of two cases with which a duel begins in this node; a mix has none."""
    if not isinstance(side, Rule):
        return ()
    state, _ = begin[0]
    return divmod(side.starts.index(state), side.marks)

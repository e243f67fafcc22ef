"""Balances: the least factor that a mix of two or three rules can have."""

from pairahead.contests import mix_contest
from pairahead.errors import NoFactor
from pairahead.sides import common_scale, shares
from pairahead.weighings import best_weights


class Balance:
    """The least factor of a mix of rules, the weights of such a mix, and loops that allow no lesser one."""

    def __init__(self, value, weights, loops):
        self.value = value
        self.weights = tuple(weights)
        self.loops = [tuple(row) for row in loops]


def balance(rules):
    """Return the balance of two or three rules."""
    for rule in rules:
        _check_factor(rule)
    contest = mix_contest(rules, None, None)
    loops = _first_loops(contest)
    while True:
        value, weights, times = best_weights([_costs(contest, loop) for loop in loops])
        counts, whole = shares(weights, contest.sizes)
        worse, _, _, _ = contest.best_loop(counts, value.top * whole, value.bottom)
        if worse is None:
            return Balance(value, weights, _told(contest, loops, times))
        loops.append(worse)


def _check_factor(rule):
    """Raise NoFactor if the duel of the mix of this rule alone has no factor."""
    contest = mix_contest([rule], None, None)
    free = contest.free_loop()
    if free is not None:
        _, lead, loop = contest.told(free)
        raise NoFactor((), lead, loop)


def _first_loops(contest):
    """Return a loop with the greatest ratio for each rule alone."""
    loops = []
    many = len(contest.sizes)
    for rule in range(many):
        loop, _, _, _ = contest.best_loop([1 if at == rule else 0 for at in range(many)], 0, 1)
        loops.append(loop)
    return loops


def _costs(contest, loop):
    """Return what a loop costs each rule, and what it costs the rival, in integers that count alike."""
    sums, rival = contest.costs_of(loop)
    scale = common_scale(contest.sizes)
    return [cost * (scale // size) for cost, size in zip(sums, contest.sizes)], rival * scale


def _told(contest, loops, times):
    """Return the triples that tell the loops that count."""
    told = []
    for many, loop in zip(times, loops):
        if many > 0:
            _, lead, letters = contest.told(loop)
            told.append((many, lead, letters))
    return told

"""Contests: the graphs of duels, their loops, and what these cost the rival and the parts of the side."""

from math import gcd

from pairahead.graphs import Climb, Graph
from pairahead.sides import repeated_by_size, sizes_of, sums_by_part, weighed

# The exchange can always be made, so it is the first step from each node; the free call, if it is allowed, the second.
LETTERS = "xfbm"
EXCHANGE = 0
FREE_CALL = 1
RIVAL_COSTS = {"x": 1, "f": 0, "b": 1, "m": 1}


def rule_contest(rule, within, most):
    """Return the contest of a rule: a node has one entry."""
    return Contest([rule], [1], [((state, False),) for state in rule.starts], within, most)


def mix_contest(rules, within, most):
    """Return the contest of the rules of a mix: a node has an entry for each two marks of each of them."""
    begin = tuple([(state, False) for rule in rules for state in rule.starts])
    return Contest(rules, sizes_of(rules), [begin], within, most)


class Contest:
    """The graph of the duel of some rules, each with a number of entries in a node.

    The beginnings are those in which the lists are alike; an exchange leads from them to the others.
    """

    def __init__(self, rules, sizes, begins, within, most):
        self.sizes = sizes
        if within is not None:
            begins = [begin + (None,) for begin in begins]
        self.graph = Graph(begins, _follower(rules, sizes, within), most)

    def exchanges(self):
        """Return the loop of two exchanges from the first beginning."""
        _, after, _ = self.graph.steps[0][EXCHANGE]
        return [(0, EXCHANGE), (after, EXCHANGE)]

    def free_loop(self):
        """Return a loop that costs the rival nothing and a part something, or None."""
        climb = Climb([
            [(after, sum(costs)) for letter, after, costs in steps if RIVAL_COSTS[letter] == 0]
            for steps in self.graph.steps
        ])
        if not climb.loops:
            return None
        return [(node, FREE_CALL) for node, _ in climb.loops[0]]

    def best_loop(self, counts, top, bottom):
        """Return a loop with the greatest ratio, the two integers of this ratio, and the gains of all nodes.

        It is the ratio of what a loop costs the side, where a cost of 1 of a part counts as much as told, and what it
        costs the rival. If none is greater than top / bottom, the loop is None and the ratio is this one. A gain is
        the greatest value of bottom * (cost of the side) - top * (cost of the rival). There is no free loop.
        """
        costs = [
            [(after, weighed(paid, counts), RIVAL_COSTS[letter]) for letter, after, paid in steps]
            for steps in self.graph.steps
        ]
        loop = None
        climb = Climb(_arcs(costs, top, bottom))
        while climb.loops:
            loop, top, bottom = _best(costs, climb.loops)
            climb = Climb(_arcs(costs, top, bottom))
        return loop, top, bottom, climb.gains

    def costs_of(self, loop):
        """Return what a loop costs the entries of each part, and what it costs the rival."""
        taken = [self.graph.steps[node][step] for node, step in loop]
        rival = sum([RIVAL_COSTS[letter] for letter, _, _ in taken])
        paid = [costs for _, _, costs in taken]
        return tuple([sum([costs[part] for costs in paid]) for part in range(len(paid[0]))]), rival

    def told(self, loop):
        """Return a beginning, the letters of a way from there to the loop, and those of the loop."""
        first = 0
        for at in range(len(loop)):
            if loop[at][0] < loop[first][0]:
                first = at
        begin, lead = self.graph.lead_to(loop[first][0])
        return self.graph.nodes[begin], lead, self.graph.letters_of(loop[first:] + loop[:first])


def _arcs(costs, top, bottom):
    return [[(after, bottom * side - top * rival) for after, side, rival in steps] for steps in costs]


def _best(costs, loops):
    """Return the loop with the greatest ratio, and the two integers of this ratio."""
    best, best_side, best_rival = None, 0, 1
    for loop in loops:
        side = sum([costs[node][step][1] for node, step in loop])
        rival = sum([costs[node][step][2] for node, step in loop])
        if best is None or side * best_rival > best_side * rival:
            best, best_side, best_rival = loop, side, rival
    shared = gcd(best_side, best_rival)
    return best, best_side // shared, best_rival // shared


def _follower(rules, sizes, within):
    """Return the function that tells the steps from a node: the entries, and in a row set one entry more."""
    tables = {
        letter: repeated_by_size([_moves(rule, letter) for rule in rules], sizes)
        for letter in LETTERS
    }
    many = sum(sizes)

    def follow(node):
        steps = []
        for letter in LETTERS:
            last = () if within is None else _last_after(within.rows, node[many], letter)
            if last is not None:
                moved = [table[entry] for table, entry in zip(tables[letter], node)]
                after = tuple([entry for entry, _ in moved])
                steps.append((letter, after + last, sums_by_part([cost for _, cost in moved], sizes)))
        return steps

    return follow


def _moves(rule, letter):
    """Return, for each entry, the entry after a step and what the step costs the rule."""
    return {
        (state, unlike): _moved(rule, state, unlike, letter)
        for state in range(len(rule))
        for unlike in (False, True)
    }


def _moved(rule, state, unlike, letter):
    """Return the entry after a step, and what the step costs the rule."""
    if letter == "x":
        return (state, not unlike), 0
    behind = unlike if letter == "f" else not unlike
    after, changes = rule.step(state, behind)
    unlike = unlike != changes
    if letter == "m":
        unlike = not unlike
    return (after, unlike), (1 if behind or changes else 0)


def _last_after(rows, last, letter):
    """Return a tuple of the entry of the row set after a step, or None if the set does not allow the step."""
    if letter == "x":
        return (None if last is None else (last[0], not last[1]),)
    state = 0
    if last is not None:
        same, other = rows[last[0]]
        state = same if last[1] == (letter == "f") else other
    return None if state is None else ((state, letter != "b"),)

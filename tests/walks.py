"""Duels walked by two cases 0 and 1 that stand in the lists of all rules of a side and in the list of a rival.

Nothing here uses the package's own searches, so that they are tested against something else.
"""

import random
from fractions import Fraction

from pairahead.rules import Mix, Rule, front, late
from pairs import made_up_rule


def fraction(ratio):
    """A Ratio as a fraction of Python's own; it must be in lowest terms."""
    value = Fraction(ratio.top, ratio.bottom)
    assert (value.numerator, value.denominator) == (ratio.top, ratio.bottom)
    return value


def entries_of(side):
    """For each entry of a node its rule and its share of the cost; the rule of a duel of a rule has one entry."""
    if isinstance(side, Rule):
        return [(side, Fraction(1))]
    whole = sum(weight for weight, _ in side.parts)
    return [
        (rule, Fraction(weight, whole * rule.marks ** 2))
        for weight, rule in side.parts
        for _ in range(rule.marks ** 2)
    ]


def begin(side, marks, front=0, within=None):
    """How the cases stand at first: case 0 is ahead in the lists of the side, and `front` in that of the rival.

    It is a tuple of the states, the cases ahead, the case at the front of the rival, and with a row set a pair of
    the case called last and the state of the set, or None.
    """
    if isinstance(side, Rule):
        states = (side.starts[marks[0] * side.marks + marks[1]],)
    else:
        states = tuple([state for _, rule in side.parts for state in rule.starts])
    return states, (0,) * len(states), front, None


def begins(side):
    """All beginnings."""
    if isinstance(side, Rule):
        all_marks = [(first, second) for first in range(side.marks) for second in range(side.marks)]
    else:
        all_marks = [()]
    return [begin(side, marks, front) for marks in all_marks for front in (0, 1)]


def called(entries, stand, case):
    """The states and the cases ahead after a call, and what it costs the side."""
    states, aheads, cost = [], [], Fraction(0)
    for (rule, share), state, ahead in zip(entries, stand[0], stand[1]):
        row = rule.rows[state]
        if case == ahead:
            after, moves, paid = row[0], row[1], 1 if row[1] else 0
        else:
            after, moves, paid = row[2], row[3], 1
        states.append(after)
        aheads.append(1 - ahead if moves else ahead)
        cost += paid * share
    return tuple(states), tuple(aheads), cost


def read_on(within, last, case):
    """The last call and the state of the row set after a call; None if there is no row set, False if it ends."""
    if within is None:
        return None
    if last is None:
        return case, 0
    row = within.rows[last[1]]
    state = row[0] if case == last[0] else row[1]
    return False if state is None else (case, state)


def step(entries, stand, letter, within=None):
    """How the cases stand after a step, and what it costs the side and the rival; None if it is not allowed."""
    states, aheads, front, last = stand
    if letter == "x":
        return (states, aheads, 1 - front, last), Fraction(0), 1
    case = front if letter == "f" else 1 - front
    last = read_on(within, last, case)
    if last is False:
        return None
    states, aheads, cost = called(entries, stand, case)
    return (states, aheads, case if letter == "m" else front, last), cost, 0 if letter == "f" else 1


def node(stand, within=None):
    """The node of the duel, as the document writes it."""
    states, aheads, front, last = stand
    entries = tuple([(state, ahead != front) for state, ahead in zip(states, aheads)])
    if within is None:
        return entries
    return entries + (None if last is None else (last[1], last[0] == front),)


def graph(side, within=None, most=None):
    """For each node that can be reached, its steps: the letter, the next node and the two costs; None if too many."""
    entries = entries_of(side)
    waiting = begins(side)
    steps = {node(stand, within): [] for stand in waiting}
    done = set()
    while waiting:
        stand = waiting.pop()
        here = node(stand, within)
        if here in done:
            continue
        done.add(here)
        for letter in "xfbm":
            result = step(entries, stand, letter, within)
            if result is not None:
                after = node(result[0], within)
                steps[here].append((letter, after, result[1], result[2]))
                if after not in steps:
                    steps[after] = []
                    waiting.append(result[0])
        if most is not None and len(steps) > most:
            return None
    return steps


def highest(steps, factor):
    """The greatest value of (cost of the side) - factor * (cost of the rival) for each node; None if it never ends."""
    values = {here: Fraction(0) for here in steps}
    for _ in range(len(steps) + 1):
        rises = False
        for here in reversed(list(steps)):
            for _, after, side, rival in steps[here]:
                value = side - factor * rival + values[after]
                if value > values[here]:
                    values[here] = value
                    rises = True
        if not rises:
            return values
    return None


def walk(side, marks, letters, within=None):
    """The stands on a walk from the beginning for these marks with like lists, and the costs of the steps."""
    entries = entries_of(side)
    stands = [begin(side, marks)]
    costs = []
    for letter in letters:
        after, paid, rival = step(entries, stands[-1], letter, within)
        stands.append(after)
        costs.append((paid, rival))
    return stands, costs


def loop_costs(test, side, marks, lead, loop, within=None):
    """Check that the steps of the loop lead back, and return what they cost the side and the rival."""
    for letters in (lead, loop):
        test.assertIsInstance(letters, str)
        test.assertLessEqual(set(letters), set("xfbm"))
    test.assertGreater(len(loop), 0)
    stands, costs = walk(side, marks, lead + loop, within)
    test.assertEqual(node(stands[len(lead)], within), node(stands[-1], within))
    paid = costs[len(lead):]
    return sum(cost for cost, _ in paid), sum(rival for _, rival in paid)


def best_closed_walk(steps, factor):
    """The greatest value of a walk that returns to where it began, with up to as many steps as there are nodes."""
    best = None
    for home in steps:
        values = {home: Fraction(0)}
        for _ in range(len(steps)):
            after = {}
            for here, value in values.items():
                for _, there, side, rival in steps[here]:
                    gained = value + side - factor * rival
                    if there not in after or gained > after[there]:
                        after[there] = gained
            values = after
            if home in values and (best is None or values[home] > best):
                best = values[home]
    return best


def as_mix(side):
    """The mix that a rule stands for."""
    return Mix([(1, side)]) if isinstance(side, Rule) else side


def has_factor(steps):
    """Tell whether no walk that costs the rival nothing costs the side something again and again."""
    return highest({here: [step for step in steps[here] if step[3] == 0] for here in steps}, 0) is not None


def sound_rules(seed, many, most_states=4, marks=(1, 2)):
    """So many made-up rules with a factor, the same ones for each run; the duels of their mixes have factors too."""
    chance = random.Random(seed)
    found = []
    while len(found) < many:
        rule = made_up_rule(chance, most_states, chance.choice(marks))
        if has_factor(graph(rule)):
            found.append(rule)
    return found


def sound_mixes(seed, many, most_nodes=150, most_states=3, marks=(1, 2)):
    """So many made-up mixes with a factor and not too many nodes, the same ones for each run."""
    chance = random.Random(seed)
    rules = sound_rules(seed, 40, most_states, marks) + [front(), late(), front() ** 2]
    found = []
    while len(found) < many:
        mix = Mix([(chance.randint(1, 9), chance.choice(rules)) for _ in range(chance.randint(1, 3))])
        if graph(mix, None, most_nodes) is not None:
            found.append(mix)
    return found


def sound_sides(seed, many):
    """So many rules and as many mixes, all of which have a factor."""
    named = [front(), late(), front() ** 2, late() ** 2, 1 * front(), 2 * front() + late(), 1 * (late() ** 2)]
    return named + sound_rules(seed, many, 5, (1, 2, 3, 4)) + sound_mixes(seed, many)

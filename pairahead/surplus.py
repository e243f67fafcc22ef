"""Surpluses: how much more one side can cost than another one, over all sequences of calls."""

from pairahead.errors import Dearer
from pairahead.graphs import Climb, Graph
from pairahead.ratios import Ratio
from pairahead.sides import parts_of, repeated_by_size, shares, sizes_of, sums_by_part, weighed

LETTERS = "01"


def surplus(first, second):
    """Return the surplus of a side over another one."""
    sides = [parts_of(first), parts_of(second)]
    graph = _graph([rule for parts in sides for _, rule in parts])
    counts, unit = _counts(sides)
    climb = Climb([[(after, weighed(sums, counts)) for _, after, sums in steps] for steps in graph.steps])
    if climb.loops:
        node, _ = climb.loops[0][0]
        _, lead = graph.lead_to(node)
        raise Dearer(lead, graph.letters_of(climb.loops[0]))
    return Ratio(climb.gains[0], unit)


def never_dearer(first, second):
    """Tell whether there is a surplus of the first side over the second one."""
    try:
        surplus(first, second)
    except Dearer:
        return False
    return True


def _counts(sides):
    """Return what a cost of 1 of an entry of each part counts, and what a cost of 1 of the first side counts.

    The costs of the second side count as gains.
    """
    (first, whole), (second, other) = [
        shares([weight for weight, _ in parts], sizes_of([rule for _, rule in parts]))
        for parts in sides
    ]
    return [count * other for count in first] + [-count * whole for count in second], whole * other


def _graph(rules):
    """Return the graph of the calls. A node has an entry for each two marks of each rule: its state, who is ahead."""
    sizes = sizes_of(rules)
    tables = [repeated_by_size([_moves(rule, call) for rule in rules], sizes) for call in (0, 1)]

    def follow(node):
        steps = []
        for letter, entry_tables in zip(LETTERS, tables):
            moved = [table[entry] for table, entry in zip(entry_tables, node)]
            after = tuple([entry for entry, _ in moved])
            steps.append((letter, after, sums_by_part([cost for _, cost in moved], sizes)))
        return steps

    begin = tuple([(state, 0) for rule in rules for state in rule.starts])
    return Graph([begin], follow, None)


def _moves(rule, call):
    """Return, for each entry, the entry after a call and what the call costs the rule."""
    return {
        (state, ahead): _moved(rule, state, ahead, call)
        for state in range(len(rule))
        for ahead in (0, 1)
    }


def _moved(rule, state, ahead, call):
    """Return the entry after a call, and what the call costs the rule."""
    behind = ahead != call
    after, changes = rule.step(state, behind)
    return (after, 1 - ahead if changes else ahead), (1 if behind or changes else 0)

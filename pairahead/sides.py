"""Sides: the entries of the parts of a mix, and how much their costs count.

A part whose rule has k marks has an entry for each two marks, so k * k of them. They have equal shares of the part.
"""

from math import lcm

from pairahead.rules import Rule


def parts_of(side):
    """Return the parts of a side; a rule stands for the mix of one part of weight 1."""
    if isinstance(side, Rule):
        return ((1, side),)
    return side.parts


def sizes_of(rules):
    """Return the number of entries for each rule."""
    return [len(rule.starts) for rule in rules]


def repeated_by_size(things, sizes):
    """Return a list for all entries, if there is a thing for each part."""
    return [thing for thing, size in zip(things, sizes) for _ in range(size)]


def sums_by_part(costs, sizes):
    """Return what the entries of each part cost together, if there is a cost for each entry."""
    sums = []
    done = 0
    for size in sizes:
        sums.append(sum(costs[done:done + size]))
        done += size
    return tuple(sums)


def common_scale(sizes):
    """Return the least number that all these numbers divide."""
    scale = 1
    for size in sizes:
        scale = lcm(scale, size)
    return scale


def shares(weights, sizes):
    """Return what a cost of 1 of an entry of each part counts, and what a cost of 1 of the whole mix counts."""
    scale = common_scale(sizes)
    counts = [weight * (scale // size) for weight, size in zip(weights, sizes)]
    return counts, scale * sum(weights)


def weighed(sums, counts):
    """Return what all parts cost together, if a cost of 1 of an entry of each part counts as told."""
    return sum([cost * count for cost, count in zip(sums, counts)])

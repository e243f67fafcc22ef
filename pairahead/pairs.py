"""Pairs of a site, led on by the calls of their cases.

A pair is a triple: its state, the case that is ahead, and the better one of the floor, None if the cases are even. The
cases are 0 and 1; 0 is the one that came first.
"""


def begun(rule, mark, other):
    """Return a new pair of cases with these marks."""
    return rule.starts[mark * rule.marks + other], 0, None


def evened(pair):
    """Return the pair with even cases."""
    state, ahead, _ = pair
    return state, ahead, None


def led_on(rule, pair, calls):
    """Return the pair after the calls, what they cost in it, and what they add to its floor."""
    state, ahead, better = pair
    cost = 0
    floor = 0
    for call in calls:
        behind = call != ahead
        state, changes = rule.step(state, behind)
        if behind or changes:
            cost += 1
        if changes:
            ahead = 1 - ahead
        if better is None:
            better = call
        elif better != call:
            floor += 1
            better = None
    return (state, ahead, better), cost, floor


def led_on_often(rule, pair, calls, times):
    """Return the same as led_on for so many times the calls, however many these are."""
    pairs = [pair]
    costs = [0]
    floors = [0]
    rounds = {}
    # There are few pairs, so after few rounds one comes again, and all goes on as it did after it.
    while len(rounds) < times and pairs[-1] not in rounds:
        rounds[pairs[-1]] = len(rounds)
        after, cost, floor = led_on(rule, pairs[-1], calls)
        pairs.append(after)
        costs.append(costs[-1] + cost)
        floors.append(floors[-1] + floor)
    done = len(rounds)
    if done == times:
        return pairs[done], costs[done], floors[done]
    first = rounds[pairs[done]]
    loops, rest = divmod(times - done, done - first)
    last = first + rest
    cost = costs[done] + loops * (costs[done] - costs[first]) + costs[last] - costs[first]
    floor = floors[done] + loops * (floors[done] - floors[first]) + floors[last] - floors[first]
    return pairs[last], cost, floor

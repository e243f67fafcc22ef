"""Best rivals: the least cost of a rival that knows all calls in advance, and moves that cost as little."""


def best_rival(names, calls):
    """Return the least cost of a rival that begins with the names and answers the calls, and its moves."""
    # For each list that the rival may have: the least cost until then, and the chain of the moves, the last one first.
    lists = {tuple(names): (0, None)}
    for name in calls:
        lists = _called(_exchanged(lists), name)
    best = None
    for cost, chain in lists.values():
        if best is None or cost < best[0]:
            best = (cost, chain)
    cost, chain = best
    return cost, _moves(chain)


def _exchanged(lists):
    """Return the lists after any exchanges."""
    reached = {order: lists[order] for order in lists}
    waiting = list(lists)
    while waiting:
        order = waiting.pop(0)
        cost, chain = reached[order]
        for at in range(len(order) - 1):
            after = order[:at] + (order[at + 1], order[at]) + order[at + 2:]
            if after not in reached or cost + 1 < reached[after][0]:
                reached[after] = (cost + 1, (chain, ("exchange", at)))
                waiting.append(after)
    return reached


def _called(lists, name):
    """Return the lists after a call, moved to any place that it may move to."""
    reached = {}
    for order, (cost, chain) in lists.items():
        place = order.index(name)
        for to in range(place, -1, -1):
            after = order[:to] + (name,) + order[to:place] + order[place + 1:]
            if after not in reached or cost + place < reached[after][0]:
                reached[after] = (cost + place, (chain, ("call", name, to)))
    return reached


def _moves(chain):
    """Return the moves of a chain in their order."""
    moves = []
    while chain is not None:
        chain, move = chain
        moves.append(move)
    return moves[::-1]

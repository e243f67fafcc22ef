"""Tables that read the calls of a pair: a call is the same as the call before it, or the other one.

Row sets and claims are such tables. The first call leads to state 0; a row begins with the state after the same call
and the state after the other call. None in the place of a state means that the table ends.
"""


class Found:
    """Rows that the package has worked out itself: they are right, and may be more than a caller may give."""

    def __init__(self, rows):
        self.rows = tuple(rows)


def state_after(rows, calls):
    """Return the state after the calls, or None if the table ends before; no calls count as one call."""
    state = 0
    for before, call in zip(calls, calls[1:]):
        if state is None:
            return None
        same, other = rows[state][:2]
        state = same if call == before else other
    return state


def joined(first, second, either):
    """Return the pairs of states that two tables reach by the same calls, and the joint table of these pairs.

    The state of a table that has ended is None. The joint table ends with the first end of the two tables, but if
    either is True, it ends with the second one.
    """
    pairs = [(0, 0)]
    numbers = {(0, 0): 0}
    rows = []
    while len(rows) < len(pairs):
        pair = pairs[len(rows)]
        following = [_following(first, second, pair, at, either) for at in (0, 1)]
        for after in following:
            if after is not None and after not in numbers:
                numbers[after] = len(pairs)
                pairs.append(after)
        rows.append(tuple([numbers.get(after) for after in following]))
    return pairs, rows


def _following(first, second, pair, at, either):
    """Return the pair of states after the same call (at 0) or the other one (at 1), or None at the end."""
    one, two = pair
    one = None if one is None else first[one][at]
    two = None if two is None else second[two][at]
    ended = (one is None and two is None) if either else (one is None or two is None)
    return None if ended else (one, two)

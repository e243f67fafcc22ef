"""Rules that order: the pairs of every list always form one linear order."""

from pairahead.searches import way_to
from pairahead.tables import least_form

# The pairs of three places are 0 and 1, 0 and 2, 1 and 2. For each place there are the numbers of its pair with the
# first of the other places, of its pair with the second one, and of the pair of these two.
PAIRS_OF_PLACES = ((0, 1, 2), (0, 2, 1), (1, 2, 0))


def orders(rule):
    """Tell whether the rule orders."""
    return ring(rule) is None


def ring(rule):
    """Return the ring of the rule, a pair of three marks and of calls, or None if the rule orders."""
    rows, starts = least_form(rule.rows, rule.starts)
    triples = _mark_triples(rule.marks)
    # An entry has the entry before it, the call from there, the cases from the front, and the states of their pairs.
    entries = [
        (None, None, (0, 1, 2), _first_states(starts, rule.marks, marks))
        for marks in triples
    ]
    seen = {}
    done = 0
    # The entries are in the order of their lengths, then of the marks, then of the calls: the first find is the least.
    while done < len(entries):
        _, _, cases, states = entries[done]
        for call in (0, 1, 2):
            after = _after(rows, states, cases.index(call))
            if after is None:
                begin, calls = way_to(entries, done)
                return triples[begin], calls + (call,)
            place, states_after = after
            # The names of the cases do not matter for what can follow, so a later entry with these states is no less.
            if states_after not in seen:
                seen[states_after] = True
                entries.append((done, call, _moved(cases, call, place), states_after))
        done += 1
    return None


def _mark_triples(marks):
    """Return all triples of marks in the order of tuples."""
    return [
        (first, second, third)
        for first in range(marks)
        for second in range(marks)
        for third in range(marks)
    ]


def _first_states(starts, marks, triple):
    """Return the starts of the three pairs of cases with these marks."""
    first, second, third = triple
    return starts[first * marks + second], starts[first * marks + third], starts[second * marks + third]


def _after(rows, states, place):
    """Return the place of the case that is called at a place, and the states then; None if the pairs form a ring."""
    with_first, with_second, apart = PAIRS_OF_PLACES[place]
    first, ahead_of_first = _called(rows[states[with_first]], place > 0)
    second, ahead_of_second = _called(rows[states[with_second]], place > 1)
    others = states[apart]
    if ahead_of_first and ahead_of_second:
        return 0, (first, second, others)
    if ahead_of_second:
        return 1, (first, others, second)
    if ahead_of_first:
        return None
    return 2, (others, first, second)


def _called(row, behind):
    """Return the next state after a call in a pair, and whether the called case is ahead then."""
    next_ahead, falls, next_behind, goes = row
    if behind:
        return next_behind, goes
    return next_ahead, not falls


def _moved(cases, case, place):
    """Return the cases after this one has gone to a place."""
    moved = [other for other in cases if other != case]
    moved.insert(place, case)
    return tuple(moved)

"""What the tests share: pairs run call by call, all sequences of calls, and made-up rules.

Nothing here uses the package's own searches, so that they are tested against something else.
"""

import random
from itertools import product

from pairahead.claims import Claim
from pairahead.rules import Rule


def sequences(most, cases=2):
    """All sequences of up to so many calls, the shorter ones first, each length in order."""
    for length in range(most + 1):
        yield from product(range(cases), repeat=length)


def case_ahead(rule, first, second, calls):
    """The case that is ahead after the calls, if case 0 with the mark first begins ahead of case 1."""
    state = rule.starts[first * rule.marks + second]
    ahead = 0
    for case in calls:
        row = rule.rows[state]
        if case == ahead:
            state, moves = row[0], row[1]
        else:
            state, moves = row[2], row[3]
        if moves:
            ahead = 1 - ahead
    return ahead


def first_parting(one, two, most):
    """The parting sequence with up to so many calls, by trying all of them, or None."""
    for length in range(most + 1):
        for first, second in product(range(one.marks), repeat=2):
            for calls in product((0, 1), repeat=length):
                if case_ahead(one, first, second, calls) != case_ahead(two, first, second, calls):
                    return first, second, calls
    return None


def made_up_rule(chance, most_states, marks):
    """A rule with random rows and starts."""
    count = chance.randint(1, most_states)
    rows = [
        (chance.randrange(count), chance.random() < 0.3, chance.randrange(count), chance.random() < 0.4)
        for _ in range(count)
    ]
    return Rule(rows, [chance.randrange(count) for _ in range(marks * marks)])


def made_up_rules(seed, many, most_states=4, marks=(1, 2)):
    """So many made-up rules, the same ones for each run."""
    chance = random.Random(seed)
    return [made_up_rule(chance, most_states, chance.choice(marks)) for _ in range(many)]


def respelled(chance, rule):
    """A rule alike to this one: its states are shuffled, one is doubled and one that is never reached is added."""
    count = len(rule)
    doubled = chance.randrange(count)
    rows = [list(row) for row in rule.rows] + [list(rule.rows[doubled]), [0, True, 0, True]]
    for row in rows:
        for at in (0, 2):
            if row[at] == doubled and chance.random() < 0.5:
                row[at] = count
    places = list(range(count + 2))
    chance.shuffle(places)
    moved = [None] * (count + 2)
    for state, row in enumerate(rows):
        moved[places[state]] = (places[row[0]], row[1], places[row[2]], row[3])
    return Rule(moved, [places[state] for state in rule.starts])


def list_after(rule, marks, calls):
    """For every two of three cases, the one that is ahead after the calls, if they begin as 0, 1, 2 with these marks."""
    return [
        pair[case_ahead(rule, marks[pair[0]], marks[pair[1]], [pair.index(call) for call in calls if call in pair])]
        for pair in ((0, 1), (0, 2), (1, 2))
    ]


def is_ring(ahead):
    """Tell whether the pairs of three cases form no linear order: each case is ahead of just one other case."""
    return sorted(ahead) == [0, 1, 2]


def first_ring(rule, most):
    """The ring with up to so many calls, by trying all of them, or None."""
    for length in range(most + 1):
        for marks in product(range(rule.marks), repeat=3):
            for calls in product((0, 1, 2), repeat=length):
                if is_ring(list_after(rule, marks, calls)):
                    return marks, calls
    return None


def state_read(rows, calls):
    """The state that a row set or a claim is in after at least one call, or None."""
    state = 0
    for at in range(1, len(calls)):
        state = rows[state][0] if calls[at] == calls[at - 1] else rows[state][1]
        if state is None:
            return None
    return state


def made_up_rows(chance, most_states, ends=0.3):
    """Random rows of a row set, with None in some places."""
    count = chance.randint(1, most_states)
    return [
        tuple([None if chance.random() < ends else chance.randrange(count) for _ in range(2)])
        for _ in range(count)
    ]


def made_up_claims(seed, many, most_states=4, words=("last", "other", "free", "none")):
    """So many made-up claims, the same ones for each run."""
    chance = random.Random(seed)
    claims = []
    for _ in range(many):
        count = chance.randint(1, most_states)
        claims.append(Claim([
            (chance.randrange(count), chance.randrange(count), chance.choice(words)) for _ in range(count)
        ]))
    return claims


def is_allowed(claim, rule, marks, calls):
    """Tell whether the verdict after at least one call allows the case that is ahead under the rule."""
    word = claim.rows[state_read(claim.rows, calls)][2]
    last = case_ahead(rule, marks[0], marks[1], calls) == calls[-1]
    return word == "free" or word == ("last" if last else "other")


def first_breaking(claim, rule, most):
    """The breaking sequence with up to so many calls, by trying all of them, or None."""
    for length in range(1, most + 1):
        for marks in product(range(rule.marks), repeat=2):
            for calls in product((0, 1), repeat=length):
                if not is_allowed(claim, rule, marks, calls):
                    return marks[0], marks[1], calls
    return None

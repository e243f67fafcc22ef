"""What the tests share: pairs run call by call, all sequences of calls, and made-up rules.

Nothing here uses the package's own searches, so that they are tested against something else.
"""

import random
from itertools import product

from pairahead.rules import Rule


def sequences(most, cases=2):
    """All sequences of up to so many calls, the shorter ones first, each length in order."""
    for length in range(most + 1):
        yield from product(range(cases), repeat=length)


def case_ahead(rule, first, second, calls):
    """The case that is ahead after the calls, if case 0 with the mark first begins ahead of case 1."""
    state = rule.starts[first * rule.marks + second]
    ahead = 0
    for case in calls:
        row = rule.rows[state]
        if case == ahead:
            state, moves = row[0], row[1]
        else:
            state, moves = row[2], row[3]
        if moves:
            ahead = 1 - ahead
    return ahead


def first_parting(one, two, most):
    """The parting sequence with up to so many calls, by trying all of them, or None."""
    for length in range(most + 1):
        for first, second in product(range(one.marks), repeat=2):
            for calls in product((0, 1), repeat=length):
                if case_ahead(one, first, second, calls) != case_ahead(two, first, second, calls):
                    return first, second, calls
    return None


def made_up_rule(chance, most_states, marks):
    """A rule with random rows and starts."""
    count = chance.randint(1, most_states)
    rows = [
        (chance.randrange(count), chance.random() < 0.3, chance.randrange(count), chance.random() < 0.4)
        for _ in range(count)
    ]
    return Rule(rows, [chance.randrange(count) for _ in range(marks * marks)])


def made_up_rules(seed, many, most_states=4, marks=(1, 2)):
    """So many made-up rules, the same ones for each run."""
    chance = random.Random(seed)
    return [made_up_rule(chance, most_states, chance.choice(marks)) for _ in range(many)]


def respelled(chance, rule):
    """A rule alike to this one: its states are shuffled, one is doubled and one that is never reached is added."""
    count = len(rule)
    doubled = chance.randrange(count)
    rows = [list(row) for row in rule.rows] + [list(rule.rows[doubled]), [0, True, 0, True]]
    for row in rows:
        for at in (0, 2):
            if row[at] == doubled and chance.random() < 0.5:
                row[at] = count
    places = list(range(count + 2))
    chance.shuffle(places)
    moved = [None] * (count + 2)
    for state, row in enumerate(rows):
        moved[places[state]] = (places[row[0]], row[1], places[row[2]], row[3])
    return Rule(moved, [places[state] for state in rule.starts])

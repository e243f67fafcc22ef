"""A model of call sites that keeps all calls and works everything out anew from them, and rules for it.

Nothing here uses the package's own sites, so that they are tested against something else.
"""

import random

from pairahead.orders import orders
from pairahead.rules import Rule, front, late, marked, still
from pairs import made_up_rule, respelled


class Model:
    """The cases of a site in the order of coming, each a tuple of a number, a name, a mark and when it came."""

    def __init__(self, rule, names, marks=None):
        self.targets = {name: name for name in names}
        self.begin(rule, names, marks or [0] * len(names))

    def begin(self, rule, names, marks):
        self.rule = rule
        self.log = []
        self.many = len(names)
        self.cases = [(at, name, mark, 0) for at, (name, mark) in enumerate(zip(names, marks))]
        # For each pair of numbers when the later one came; and for each dropped case when that was.
        self.since = {(first, second): 0 for second in range(len(names)) for first in range(second)}
        self.until = {}
        self.cost = 0

    @property
    def calls(self):
        return len(self.log)

    @property
    def pairs(self):
        return len(self.since)

    @property
    def floor(self):
        return sum(self.floor_of(both) for both in self.since)

    def floor_of(self, both):
        """The floor of a pair of numbers, from the calls of the two while they stood together."""
        floor, better = 0, None
        end = min(self.until.get(number, len(self.log)) for number in both)
        for called in self.log[self.since[both]:end]:
            if called in both:
                if better is None:
                    better = called
                elif better != called:
                    floor, better = floor + 1, None
        return floor

    def find(self, name):
        return [case for case in self.cases if case[1] == name][0]

    def history(self, first, second):
        """The calls of two cases since the first of them came, as 0 and 1."""
        both = (first[0], second[0])
        return [both.index(called) for called in self.log[first[3]:] if called in both]

    def stand(self, first, second):
        """The state of the pair of two cases, the first of which came first, and the case that is ahead."""
        state, ahead = self.rule.starts[first[2] * self.rule.marks + second[2]], 0
        for call in self.history(first, second):
            row = self.rule.rows[state]
            state, moves = (row[0], row[1]) if call == ahead else (row[2], row[3])
            ahead = 1 - ahead if moves else ahead
        return state, (first, second)[ahead]

    def pair(self, name, other):
        first, second = sorted((self.find(name), self.find(other)))
        state, ahead = self.stand(first, second)
        return ahead[1], state

    @property
    def order(self):
        """The names from the front; every two of them stand in their order, or it is no linear order."""
        ahead = {case[1]: 0 for case in self.cases}
        for at, second in enumerate(self.cases):
            for first in self.cases[:at]:
                winner = self.stand(first, second)[1]
                ahead[(second if winner == first else first)[1]] += 1
        names = sorted(ahead, key=lambda name: ahead[name])
        assert [ahead[name] for name in names] == list(range(len(names)))
        return names

    def call(self, name):
        before = self.order
        self.log.append(self.find(name)[0])
        after = self.order
        place = before.index(name)
        cost = place + len([other for other in before[place + 1:] if other in after[:after.index(name)]])
        self.cost += cost
        return cost

    def put(self, name, mark, target=None):
        for case in self.cases:
            self.since[(case[0], self.many)] = len(self.log)
        self.cases.append((self.many, name, mark, len(self.log)))
        self.many += 1
        self.targets[name] = name if target is None else target

    def drop(self, name):
        self.until[self.find(name)[0]] = len(self.log)
        self.cases.remove(self.find(name))
        del self.targets[name]

    def exchange(self, rule):
        names = self.order
        self.begin(rule, names, [0] * len(names))

    def check(self, test, site):
        """Check that the site is in everything as the model."""
        order = self.order
        test.assertEqual(site.order, order)
        test.assertEqual(list(site), order)
        test.assertEqual(len(site), len(order))
        for name in ("cost", "calls", "pairs", "floor"):
            test.assertEqual(getattr(site, name), getattr(self, name), name)
            test.assertIs(type(getattr(site, name)), int)
        for at, name in enumerate(order):
            test.assertIn(name, site)
            test.assertEqual(site.ahead(name), at)
            test.assertIs(site[name], self.targets[name])
            for other in order[:at]:
                told = self.pair(name, other)
                test.assertEqual(told[0], other)
                test.assertEqual(site.pair(name, other), told)
                test.assertEqual(site.pair(other, name), told)


def shape(site):
    """All that can be asked of a site, but for its rule."""
    order = site.order
    pairs = [site.pair(name, other) for name in order for other in order if name != other]
    return order, [site[name] for name in order], pairs, site.cost, site.calls, site.pairs, site.floor


def falling():
    """Rules that order and under which called cases fall behind."""
    return [
        marked([(0, "back")]), marked([(1, "back"), (0, "front")]), marked([(1, "keep"), (2, "back"), (0, "front")]),
        marked([(1, "front"), (2, "back"), (3, "keep"), (1, "back")]), marked([(1, "back"), (0, "keep")]) ** 2,
        Rule.read("0 fall 0 stay"), Rule.read("1 fall 0 stay; 1 stay 0 go"),
    ]


def ordering_rules(seed=1, many=20):
    """Named rules, powers, marked rules and made-up rules that order, the same ones for each run."""
    chance = random.Random(seed)
    found = [front(), late(), still(), front() ** 2, front() ** 3, late() ** 2, front() ** 4, late() ** 4] + falling()
    words = ("front", "back", "keep")
    for count in (2, 3, 4):
        found.append(marked([(chance.randrange(count), chance.choice(words)) for _ in range(count)]))
    found.extend([respelled(chance, rule) for rule in found[:6]])
    while len(found) < 24 + many:
        rule = made_up_rule(chance, chance.choice((2, 3, 4)), chance.choice((1, 1, 2)))
        if len(rule.least()) > 1 and orders(rule):
            found.append(rule)
    return found

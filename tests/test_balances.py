"""Point 42 and the interface of pairahead/balances.py."""

import random
import unittest
from fractions import Fraction

from pairahead.balances import Balance, balance
from pairahead.duels import Duel
from pairahead.errors import NoFactor
from pairahead.ratios import Ratio
from pairahead.rules import Mix, Rule, front, late, marked, still
from walks import fraction, graph, highest, loop_costs, sound_rules


def mix_of(weights, rules):
    """The mix of the rules with these weights; those of weight 0 are left out."""
    return Mix([(weight, rule) for weight, rule in zip(weights, rules) if weight > 0])


def drawn(seed, many, most_nodes=200, marks=(1, 2)):
    """Two or three rules each whose mix has not too many nodes."""
    chance = random.Random(seed)
    pool = sound_rules(seed, 40, 4, marks) + [front(), late(), front() ** 2, late() ** 2] * 3
    found = []
    while len(found) < many:
        rules = [chance.choice(pool) for _ in range(chance.choice((2, 3)))]
        steps = graph(mix_of([1] * len(rules), rules), None, most_nodes)
        if steps is not None and len(steps) > 4:
            found.append(rules)
    return found


class TestBalance(unittest.TestCase):
    def check(self, rules):
        """Check the weights and the loops: together they show that the value is the least one."""
        found = balance(rules)
        value = fraction(found.value)
        self.check_kinds(found, len(rules))
        mix = mix_of(found.weights, rules)
        self.assertEqual(str(Duel(mix).factor), str(found.value))
        self.assertIsNotNone(highest(graph(mix), value))
        sums = [Fraction(0)] * len(rules)
        rivals = 0
        for times, lead, loop in found.loops:
            for at, rule in enumerate(rules):
                # What the loop costs this rule alone, in the walk of the mix of all rules.
                paid, rival = self.part_costs(rules, at, lead, loop)
                sums[at] += times * paid
            rivals += times * rival
        self.assertGreater(rivals, 0)
        for paid in sums:
            self.assertGreaterEqual(paid, value * rivals)
        return found

    def part_costs(self, rules, at, lead, loop):
        """Walk in the duel of the mix of all rules, and count what the rule costs and what the rival."""
        all_rules = mix_of([1] * len(rules), rules)
        whole, rival = loop_costs(self, all_rules, (), lead, loop)
        alone, same = loop_costs(self, mix_of([1], [rules[at]]), (), lead, loop)
        self.assertEqual(rival, same)
        # Twice the rule in the mix costs what the mix costs and the rule once more.
        more, _ = loop_costs(self, mix_of([1] * (len(rules) + 1), rules + [rules[at]]), (), lead, loop)
        self.assertEqual(more * (len(rules) + 1), whole * len(rules) + alone)
        return alone, rival

    def check_kinds(self, found, many):
        self.assertIsInstance(found, Balance)
        self.assertIsInstance(found.value, Ratio)
        self.assertIs(type(found.weights), tuple)
        self.assertEqual(len(found.weights), many)
        for weight in found.weights:
            self.assertIs(type(weight), int)
            self.assertGreaterEqual(weight, 0)
        self.assertGreater(sum(found.weights), 0)
        self.assertIs(type(found.loops), list)
        self.assertGreaterEqual(len(found.loops), 1)
        for row in found.loops:
            self.assertIs(type(row), tuple)
            times, lead, loop = row
            self.assertEqual((type(times), type(lead), type(loop)), (int, str, str))
            self.assertGreater(times, 0)
        for name in ("value", "weights", "loops"):
            self.assertIn(name, vars(found))

    def test_two_and_three_named_rules(self):
        self.assertEqual(str(self.check([front(), late()]).value), "2")
        self.assertEqual(str(self.check([front(), front() ** 2]).value), "7/4")
        self.assertEqual(str(self.check([front(), late(), front() ** 2]).value), "8/5")
        self.check([late(), late() ** 2])
        self.check([late() ** 2, front() ** 2, front()])

    def test_a_real_mix_is_better_than_each_rule(self):
        found = self.check([late(), front() ** 2])
        self.assertEqual(str(found.value), "8/5")
        self.assertGreater(min(found.weights), 0)
        for rule in (late(), front() ** 2):
            self.assertGreater(Duel(1 * rule).factor, found.value)

    def test_made_up_rules(self):
        for rules in drawn(1, 60):
            self.check(rules)

    def test_rules_of_many_marks(self):
        for rules in drawn(2, 12, 400, (3, 4)):
            self.check(rules)

    def test_no_drawn_weights_are_better(self):
        chance = random.Random(3)
        for rules in drawn(3, 12) + [[front(), late(), front() ** 2]]:
            value = balance(rules).value
            for rule in rules:
                self.assertGreaterEqual(Duel(1 * rule).factor, value)
            for _ in range(12):
                weights = [chance.choice((0, 1, 2, 5, 10 ** 30, chance.randint(1, 100))) for _ in rules]
                if sum(weights) > 0:
                    self.assertGreaterEqual(Duel(mix_of(weights, rules)).factor, value)

    def test_weights_of_0(self):
        # A rule that is worth nothing beside the others, which must not count in any way.
        slow = Rule([(0, False, 1, False), (1, False, 2, False), (2, False, 0, True)])
        self.assertEqual(str(Duel(1 * slow).factor), "3")
        found = self.check([slow, front() ** 2])
        self.assertEqual((str(found.value), found.weights), ("7/4", (0, 1)))
        found = self.check([front() ** 2, slow, late()])
        self.assertEqual((str(found.value), found.weights[1]), ("8/5", 0))
        found = self.check([slow, slow, front()])
        self.assertEqual(str(found.value), "2")

    def test_equal_rules(self):
        for rule in (front(), late(), front() ** 2):
            self.assertEqual(str(self.check([rule, rule]).value), str(Duel(1 * rule).factor))
            self.assertEqual(str(self.check([rule, rule, rule]).value), str(Duel(1 * rule).factor))

    def test_a_rule_put_in_twice_and_other_orders(self):
        for rules in drawn(4, 15, 100) + [[late(), front() ** 2]]:
            value = str(balance(rules).value)
            self.assertEqual(str(self.check(rules[::-1]).value), value)
            self.assertEqual(str(self.check(rules[1:] + rules[:1]).value), value)
            if len(rules) == 2:
                self.assertEqual(str(self.check(rules + [rules[0]]).value), value)
                self.assertEqual(str(self.check([rules[1]] + rules).value), value)

    def test_alike_rules(self):
        other = Rule.read("1 stay 0 go; 0 stay 1 go")
        self.assertEqual(str(self.check([front(), other]).value), "2")
        self.assertEqual(str(self.check([other, late(), front() ** 2]).value), "8/5")

    def test_three_rules_of_several_marks(self):
        marks = marked([(1, "keep"), (0, "front")])
        turning = marked([(1, "keep"), (2, "keep"), (0, "front")])
        self.check([marks, late(), front()])
        self.check([front() ** 2, late() ** 2, front()])
        self.assertEqual(len(graph(mix_of([1, 1], [front() ** 3, late()]), None, 1000)), 360)
        self.check([turning, late(), front()])

    def test_lists_and_tuples_by_name(self):
        one, two = balance(rules=[late(), front() ** 2]), balance((late(), front() ** 2))
        self.assertEqual((str(one.value), one.weights, one.loops), (str(two.value), two.weights, two.loops))

    def test_the_same_when_asked_twice_and_arguments_stay(self):
        for rules in drawn(5, 10):
            before = [str(rule) for rule in rules]
            one = balance(rules)
            weights, loops = one.weights, list(one.loops)
            one.loops.append("changed")
            two = balance(rules)
            self.assertEqual((str(two.value), two.weights, two.loops), (str(one.value), weights, loops))
            self.assertEqual([str(rule) for rule in rules], before)


class TestNoFactor(unittest.TestCase):
    BAD = (still(), marked([(0, "back")]), Rule([(0, False, 0, True), (1, False, 1, False)], [0, 0, 1, 0]))

    def check(self, rules, first):
        """The evidence is that of the duel of the mix of this rule alone."""
        with self.assertRaises(NoFactor) as caught:
            balance(rules)
        error = caught.exception
        self.assertEqual(error.marks, ())
        paid, rival = loop_costs(self, 1 * first, error.marks, error.lead, error.loop)
        self.assertEqual(rival, 0)
        self.assertGreater(paid, 0)
        with self.assertRaises(NoFactor) as alone:
            Duel(1 * first)
        self.assertEqual((error.lead, error.loop), (alone.exception.lead, alone.exception.loop))

    def test_at_each_place(self):
        for bad in self.BAD:
            self.check([bad, front()], bad)
            self.check([front(), bad], bad)
            self.check([bad, front(), late()], bad)
            self.check([front(), bad, late()], bad)
            self.check([front(), late(), bad], bad)
            self.check([bad, bad, bad], bad)

    def test_the_first_of_several(self):
        # `f` alone costs the first rule nothing: its loop begins only after a call of each case.
        one = Rule([(1, False, 1, True), (1, False, 1, False)])
        two = still()
        self.check([one, two], one)
        self.check([two, one], two)
        self.check([front(), one, two], one)
        self.check([front(), two, one], two)


class TestClass(unittest.TestCase):
    def test_made_by_position_and_by_name(self):
        loops = [(1, "x", "bf")]
        for made in (Balance(Ratio(2), (1, 0), loops), Balance(value=Ratio(2), weights=(1, 0), loops=loops)):
            self.assertEqual((made.value, made.weights, made.loops), (Ratio(2), (1, 0), [(1, "x", "bf")]))
        loops.append((2, "", "b"))
        self.assertEqual(made.loops, [(1, "x", "bf")])


if __name__ == "__main__":
    unittest.main()

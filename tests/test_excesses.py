"""Point 39: the excess of each node, and the greatest of them."""

import unittest

from pairahead.duels import Duel
from pairahead.ratios import Ratio
from pairahead.rules import Mix, Rule, front, late
from walks import fraction, graph, highest, sound_mixes, sound_rules, sound_sides


class TestExcesses(unittest.TestCase):
    def check(self, side):
        duel = Duel(side)
        steps = graph(side)
        values = highest(steps, fraction(duel.factor))
        self.assertEqual({here: fraction(duel.excess(here)) for here in steps}, values)
        self.assertEqual(fraction(duel.most), max(values.values()))

    def test_front_worked_out_by_hand(self):
        for side in (front(), 1 * front()):
            duel = Duel(side)
            self.assertEqual(duel.excess(((0, False),)), 0)
            self.assertEqual(duel.excess(((0, True),)), 1)
            self.assertEqual((duel.factor, duel.most, duel.size), (2, 1, 2))

    def test_late_worked_out_by_hand(self):
        duel = Duel(late())
        # `ff`, and the case is ahead at the second call only.
        self.assertEqual(duel.excess(((0, True),)), 2)
        self.assertEqual(duel.excess(((0, False),)), 0)
        self.assertEqual(duel.excess(((1, True),)), 1)
        self.assertEqual(duel.most, 2)

    def test_rules(self):
        for rule in sound_rules(1, 80, 6, (1, 2, 3, 4)):
            self.check(rule)

    def test_mixes(self):
        for mix in sound_mixes(2, 60):
            self.check(mix)

    def test_named_rules(self):
        for rule in (front(), late(), front() ** 2, front() ** 3, front() ** 4, late() ** 2, late() ** 3, late() ** 4):
            self.check(rule)
        for rule in (front(), late(), front() ** 2, front() ** 3, late() ** 2):
            self.check(1 * rule)

    def test_great_weights(self):
        self.check(Mix([(10 ** 39 + 7, late()), (10 ** 40 - 1, front() ** 2), (3, front())]))
        self.check(Mix([(10 ** 29 + at, [late(), front(), front() ** 2][at % 3]) for at in range(10)]))

    def test_a_great_excess(self):
        # The called case goes ahead only when it has been called so often that the count is full.
        many = 40
        rows = [(0, False, state + 1, False) for state in range(many)] + [(0, False, 0, True)]
        duel = Duel(Rule(rows))
        self.check(Rule(rows))
        self.assertEqual(duel.most, many + 1)
        self.assertEqual(duel.excess(((many, True),)), 1)

    def test_an_excess_is_at_least_0(self):
        for side in sound_sides(4, 20):
            duel = Duel(side)
            for here in graph(side):
                self.assertIsInstance(duel.excess(here), Ratio)
                self.assertGreaterEqual(duel.excess(here), 0)
                self.assertLessEqual(duel.excess(here), duel.most)

    def test_the_same_when_asked_twice(self):
        for side in sound_sides(5, 15):
            one, two = Duel(side), Duel(side)
            for here in graph(side):
                self.assertEqual(str(one.excess(here)), str(two.excess(here)))
                self.assertEqual(str(one.excess(here)), str(one.excess(here)))


if __name__ == "__main__":
    unittest.main()

"""What a balance rests on (point 42): the best weights against loops, checked by weights and times together."""

import random
import unittest
from fractions import Fraction

from pairahead.weighings import best_weights
from walks import fraction


class TestBestWeights(unittest.TestCase):
    def check(self, loops):
        """No weights have a lesser value, since the times allow none; and these weights have this value."""
        value, weights, times = best_weights(loops)
        value = fraction(value)
        self.assertEqual((len(weights), len(times)), (len(loops[0][0]), len(loops)))
        self.assertGreaterEqual(min(weights + times), 0)
        self.assertGreater(min(sum(weights), sum(times)), 0)
        for costs, rival in loops:
            mean = sum(weight * cost for weight, cost in zip(weights, costs))
            self.assertLessEqual(mean, value * rival * sum(weights))
        rivals = sum(many * rival for many, (_, rival) in zip(times, loops))
        for rule in range(len(weights)):
            paid = sum(many * costs[rule] for many, (costs, _) in zip(times, loops))
            self.assertGreaterEqual(paid, value * rivals)
        return value

    def test_by_hand(self):
        self.assertEqual(self.check([([2, 1], 1), ([1, 2], 1)]), Fraction(3, 2))
        self.assertEqual(self.check([([3, 1], 1), ([0, 2], 1)]), Fraction(3, 2))
        self.assertEqual(self.check([([2, 4], 2), ([3, 2], 1)]), Fraction(2))
        self.assertEqual(self.check([([1, 0, 0], 1), ([0, 1, 0], 1), ([0, 0, 1], 1)]), Fraction(1, 3))
        self.assertEqual(self.check([([5, 1, 4], 2)]), Fraction(1, 2))

    def test_loops_that_cost_some_rules_nothing(self):
        self.assertEqual(self.check([([0, 3], 1), ([0, 1], 5)]), 0)
        self.assertEqual(self.check([([0, 0], 1)]), 0)

    def test_drawn_loops(self):
        chance = random.Random(1)
        for _ in range(400):
            many = chance.choice((2, 3))
            most = chance.choice((1, 2, 4, 30))
            loops = [([chance.randint(0, most) for _ in range(many)], chance.randint(1, chance.choice((1, 3, 9))))
                     for _ in range(chance.randint(1, 25))]
            value = self.check(loops)
            self.assertEqual(self.check(loops[::-1]), value)
            self.assertEqual(self.check(loops + loops[:1]), value)
            self.assertEqual(self.check([(costs[::-1], rival) for costs, rival in loops]), value)

    def test_loops_around_one_best_mix(self):
        # Many loops go through one point, so the steps of the method have many equal limits.
        chance = random.Random(2)
        for _ in range(100):
            weights = [chance.randint(0, 3), chance.randint(0, 3), chance.randint(1, 3)]
            loops = []
            while len(loops) < 12:
                costs = [chance.randint(0, 12) for _ in range(3)]
                total = sum(weight * cost for weight, cost in zip(weights, costs))
                if total > 0:
                    loops.append(([cost * 2 * sum(weights) for cost in costs], total))
            self.assertLessEqual(self.check(loops), 2)

    def test_great_numbers(self):
        chance = random.Random(3)
        for _ in range(20):
            self.check([([chance.randint(0, 10 ** 40) for _ in range(3)], chance.randint(1, 10 ** 40)) for _ in range(8)])


if __name__ == "__main__":
    unittest.main()

"""Points 34 and 35: the class Mix, and + and * of rules and mixes."""

import unittest

from pairahead.errors import InvalidMix, PairError
from pairahead.ratios import Ratio
from pairahead.rules import Mix, Rule, front, late, still

WRONG = (0, -1, -10 ** 40, True, False, None, "1", Ratio(1))


def told(mix):
    """The parts of a mix with the texts of the rules."""
    return [(weight, str(rule)) for weight, rule in mix.parts]


FRONT, STILL, LATE = str(front()), str(still()), str(late())


class TestParts(unittest.TestCase):
    def test_attribute(self):
        rule = front()
        mix = Mix([(2, rule), (1, still())])
        self.assertIsInstance(mix.parts, tuple)
        self.assertIsInstance(mix.parts[0], tuple)
        self.assertIs(mix.parts[0][1], rule)
        self.assertEqual(told(mix), [(2, FRONT), (1, STILL)])
        self.assertEqual(set(vars(mix)), {"parts"})

    def test_lists_and_tuples(self):
        parts = [[2, front()], [3, still()]]
        mix = Mix(parts=parts)
        parts[0][0] = 7
        parts.append([1, late()])
        self.assertEqual(told(mix), [(2, FRONT), (3, STILL)])
        self.assertEqual(told(Mix(((2, front()), [3, still()]))), [(2, FRONT), (3, STILL)])

    def test_length(self):
        self.assertEqual([len(Mix([(1, front())] * many)) for many in (1, 2, 10)], [1, 2, 10])

    def test_equal_rules_stay_apart(self):
        self.assertEqual(told(Mix([(1, front()), (1, front())])), [(1, FRONT), (1, FRONT)])

    def test_no_part(self):
        for none in ([], ()):
            with self.assertRaises(InvalidMix):
                Mix(none)

    def test_wrong_weights(self):
        for wrong in WRONG:
            with self.assertRaises(InvalidMix):
                Mix([(wrong, front())])
            with self.assertRaises(InvalidMix):
                Mix([(1, front()), (wrong, still())])
            with self.assertRaises(PairError):
                Mix([[wrong, front()], [1, still()]])

    def test_great_weights(self):
        great = 10 ** 40 - 1
        mix = Mix([(great, front()), (1, still())])
        self.assertEqual(told(mix * great), [(great * great, FRONT), (great, STILL)])
        self.assertEqual(told(Mix([(10 ** 400, front())])), [(10 ** 400, FRONT)])

    def test_methods_stand_in_the_classes(self):
        for kind in (Rule, Mix):
            for name in ("len", "add", "mul", "rmul"):
                self.assertIn(f"__{name}__", vars(kind))


class TestSums(unittest.TestCase):
    def check(self, mix, parts):
        self.assertIsInstance(mix, Mix)
        self.assertEqual(told(mix), parts)

    def test_rule_and_rule(self):
        self.check(front() + still(), [(1, FRONT), (1, STILL)])
        self.check(still() + front(), [(1, STILL), (1, FRONT)])

    def test_rule_and_mix(self):
        mix = Mix([(2, still()), (5, late())])
        self.check(front() + mix, [(1, FRONT), (2, STILL), (5, LATE)])
        self.check(mix + front(), [(2, STILL), (5, LATE), (1, FRONT)])

    def test_mix_and_mix(self):
        one, two = Mix([(2, still()), (5, late())]), Mix([(3, front()), (4, still())])
        self.check(one + two, [(2, STILL), (5, LATE), (3, FRONT), (4, STILL)])
        self.check(two + one, [(3, FRONT), (4, STILL), (2, STILL), (5, LATE)])

    def test_three(self):
        self.check(front() + still() + late(), [(1, FRONT), (1, STILL), (1, LATE)])
        self.check(front() + (still() + late()), [(1, FRONT), (1, STILL), (1, LATE)])

    def test_operands_stay_as_they_were(self):
        mix, rule = Mix([(2, still())]), front()
        self.assertIsNotNone((mix + rule, rule + mix, mix + mix, mix * 3, 3 * mix, rule * 3))
        self.check(mix, [(2, STILL)])
        self.assertEqual(str(rule), FRONT)

    def test_the_rule_itself_is_the_part(self):
        rule = Rule.read("1 stay 0 go; 0 stay 1 go")
        self.assertIs((rule + front()).parts[0][1], rule)
        self.assertIs((2 * rule).parts[0][1], rule)

    def test_other_things(self):
        for other in (1, "x", None, [(1, front())]):
            with self.assertRaises(TypeError):
                front() + other
            with self.assertRaises(TypeError):
                Mix([(1, front())]) + other


class TestProducts(unittest.TestCase):
    def test_a_rule(self):
        for mix in (3 * front(), front() * 3):
            self.assertIsInstance(mix, Mix)
            self.assertEqual(told(mix), [(3, FRONT)])
        self.assertEqual(told(1 * front()), [(1, FRONT)])

    def test_a_mix(self):
        mix = Mix([(2, still()), (5, late())])
        for product in (3 * mix, mix * 3):
            self.assertIsInstance(product, Mix)
            self.assertEqual(told(product), [(6, STILL), (15, LATE)])
        self.assertEqual(told(mix * 1), told(mix))
        self.assertIsNot(mix * 1, mix)

    def test_together(self):
        self.assertEqual(told(2 * front() + 3 * (still() + 2 * late())), [(2, FRONT), (3, STILL), (6, LATE)])

    def test_wrong_factors(self):
        mix = Mix([(2, still()), (5, late())])
        for side in (front(), mix):
            for wrong in WRONG:
                with self.assertRaises(InvalidMix, msg=repr(wrong)):
                    side * wrong
                with self.assertRaises(InvalidMix, msg=repr(wrong)):
                    wrong * side

    def test_great_factors(self):
        great = 10 ** 40 - 1
        self.assertEqual(told(great * front()), [(great, FRONT)])
        self.assertEqual(told(front() * great), [(great, FRONT)])


if __name__ == "__main__":
    unittest.main()

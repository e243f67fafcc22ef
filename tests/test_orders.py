"""Points 16 and 17: rules that order, and the rings of those that do not."""

import random
import unittest
from itertools import product

from pairahead.orders import orders, ring
from pairahead.rules import Rule, front, late, marked, still
from pairs import first_ring, is_ring, list_after, made_up_rules, respelled

WORDS = ("front", "back", "keep")
TWICE = "0 stay 1 stay; 0 stay 0 go"


def in_a_row(count):
    """A rule under which a case goes ahead when it is called so many times without a call of the other one."""
    rows = [(0, False, state + 1, False) for state in range(count - 1)]
    return Rule(rows + [(0, False, 0, True)])


def for_marks(rule, marks, chosen):
    """A rule with so many marks that is like a plain rule for the chosen pairs of marks, and still for all others."""
    count = len(rule)
    starts = [0 if pair in chosen else count for pair in product(range(marks), repeat=2)]
    return Rule(rule.rows + ((count, False, count, False),), starts)


class TestRulesThatOrder(unittest.TestCase):
    def assert_orders(self, rule):
        self.assertIsNone(ring(rule), str(rule))
        self.assertIs(orders(rule), True, str(rule))

    def test_the_named_rules_and_their_powers(self):
        for rule in (front(), still(), late()):
            self.assert_orders(rule)
            for k in (1, 2, 3, 4):
                self.assert_orders(rule ** k)

    def test_marked_rules_of_one_and_two_rows(self):
        for word in WORDS:
            for k in (1, 2, 3, 4):
                self.assert_orders(marked([(0, word)]) ** k)
        for first, second in product(product((0, 1), WORDS), repeat=2):
            self.assert_orders(marked([first, second]))
            self.assert_orders(marked([first, second]) ** 2)

    def test_marked_rules_of_three_and_four_rows(self):
        chance = random.Random(3)
        for count in (3, 4):
            for _ in range(20):
                self.assert_orders(marked([(chance.randrange(count), chance.choice(WORDS)) for _ in range(count)]))

    def test_every_call_makes_the_last_one_of_the_pair_fall(self):
        self.assert_orders(Rule.read("0 fall 0 stay"))

    def test_the_pairs_of_rules_that_order_form_a_linear_order(self):
        chance = random.Random(4)
        for rule in (late(), late() ** 2, marked([(1, "front"), (2, "back"), (0, "keep")])):
            for _ in range(200):
                marks = [chance.randrange(rule.marks) for _ in range(3)]
                calls = [chance.randrange(3) for _ in range(40)]
                self.assertFalse(is_ring(list_after(rule, marks, calls)))


class TestRings(unittest.TestCase):
    def assert_ring(self, rule, expected):
        self.assertEqual(ring(rule), expected, str(rule))
        self.assertIs(orders(rule), False, str(rule))

    def test_the_ring_of_the_document(self):
        self.assert_ring(Rule.read(TWICE), ((0, 0, 0), (2, 1, 2)))
        ahead = list_after(Rule.read(TWICE), (0, 0, 0), (2, 1, 2))
        self.assertEqual(ahead, [0, 2, 1])

    def test_the_kind_of_the_result(self):
        result = ring(Rule.read(TWICE))
        self.assertEqual([tuple, tuple, tuple], [type(result), type(result[0]), type(result[1])])
        self.assertEqual(ring(rule=Rule.read(TWICE)), result)
        self.assertIs(orders(rule=Rule.read(TWICE)), False)

    def test_cases_that_fall(self):
        # The case in the middle goes ahead of the first one and falls behind the last one.
        self.assert_ring(Rule.read("0 fall 0 go"), ((0, 0, 0), (1,)))
        # The first case falls behind the last one, but not behind the one in the middle.
        falls = for_marks(Rule.read("0 fall 0 stay"), 2, [(0, 1)])
        self.assert_ring(falls, ((0, 0, 1), (0,)))
        text = "1 fall 0 stay; 1 stay 1 go"
        self.assert_ring(Rule.read(text), first_ring(Rule.read(text), 5))

    def test_against_all_sequences(self):
        for marks, many, most in ((1, 150, 6), (2, 60, 5), (3, 25, 4), (4, 10, 3)):
            found = 0
            for rule in made_up_rules(40 + marks, many, 4, (marks,)):
                result = ring(rule)
                expected = first_ring(rule, most)
                if expected is not None or result is None or len(result[1]) <= most:
                    self.assertEqual(result, expected, str(rule))
                self.assertIs(orders(rule), result is None)
                found += expected is not None
            self.assertGreater(found, many // 3)

    def test_the_fewest_calls_go_before_the_least_marks(self):
        # The case called last needs two calls in a row if both cases have the mark 1, otherwise three.
        rows = in_a_row(3).rows + ((3, False, 4, False), (3, False, 3, True))
        self.assert_ring(Rule(rows, [0] * 4), ((0, 0, 0), (2, 1, 2, 2)))
        self.assert_ring(Rule(rows, [0, 0, 0, 3]), ((1, 0, 1), (2, 2)))

    def test_the_least_marks_go_before_the_least_calls(self):
        still_state, goes, falls = (0, False, 0, False), (1, False, 1, True), (2, True, 2, False)
        rows = [still_state, goes, falls]
        self.assert_ring(Rule(rows, [0, 1, 0, 0, 0, 0, 0, 0, 0]), ((0, 1, 1), (2,)))
        self.assert_ring(Rule(rows, [0, 0, 0, 0, 0, 2, 0, 0, 0]), ((1, 0, 2), (0,)))
        self.assert_ring(Rule(rows, [0, 1, 0, 0, 0, 2, 0, 0, 0]), ((0, 1, 1), (2,)))

    def test_the_least_calls(self):
        # In a pair of the marks 0 and 2 each call makes the cases change places; all other pairs stay.
        both = for_marks(Rule.read("0 fall 0 go"), 3, [(0, 2)])
        self.assertTrue(is_ring(list_after(both, (0, 1, 2), (2,))))
        self.assertTrue(is_ring(list_after(both, (0, 1, 2), (0,))))
        self.assert_ring(both, ((0, 0, 2), (0,)))
        goes = for_marks(Rule.read("0 fall 0 go"), 3, [(0, 2), (0, 0)])
        self.assert_ring(goes, ((0, 0, 0), (1,)))

    def test_only_the_last_mark_makes_rings(self):
        for marks in (2, 3, 4):
            last = marks - 1
            # Cases whose marks differ stay as they are, so the least ring has two cases with the last mark.
            rule = for_marks(Rule.read(TWICE), marks, [(last, last)])
            self.assert_ring(rule, ((last, 0, last), (2, 2)))

    def test_more_states_than_the_least_form(self):
        chance = random.Random(6)
        for rule in made_up_rules(50, 60, 5, (1, 2, 3)) + [late(), Rule.read(TWICE)]:
            self.assertEqual(ring(respelled(chance, rule)), ring(rule))

    def test_calls_in_a_row(self):
        for count in range(2, 7):
            self.assertEqual(ring(in_a_row(count)), first_ring(in_a_row(count), count + 1))
        for count in (2, 3, 10, 47, 48):
            self.assert_ring(in_a_row(count), ((0, 0, 0), (2, 1) + (2,) * (count - 1)))

    def test_many_states_and_four_marks(self):
        self.assertEqual((len(late() ** 4), (late() ** 4).marks), (48, 4))
        rule = for_marks(in_a_row(47), 4, [(3, 3)])
        self.assertEqual((len(rule), rule.marks), (48, 4))
        marks, calls = ring(rule)
        self.assertTrue(is_ring(list_after(rule, marks, calls)))
        self.assertEqual(len(calls), 47)
        chance = random.Random(8)
        for _ in range(5):
            rows = [(chance.randrange(48), False, chance.randrange(48), state == 47) for state in range(48)]
            rule = Rule(rows, [chance.randrange(48) for _ in range(16)])
            result = ring(rule)
            if result is not None:
                self.assertTrue(is_ring(list_after(rule, *result)))

    def test_a_ring_comes_with_its_last_call_only(self):
        for rule in made_up_rules(60, 60, 6, (1, 2)):
            result = ring(rule)
            if result is not None:
                marks, calls = result
                for length in range(len(calls)):
                    self.assertFalse(is_ring(list_after(rule, marks, calls[:length])))
                self.assertTrue(is_ring(list_after(rule, marks, calls)))

    def test_powers_order_exactly_if_the_rule_does(self):
        for rule in made_up_rules(70, 60, 3, (1,)) + [Rule.read(TWICE), late()]:
            for k in (1, 2, 3, 4):
                self.assertIs(orders(rule ** k), orders(rule), str(rule))
        for rule in made_up_rules(71, 30, 4, (2,)):
            self.assertIs(orders(rule ** 2), orders(rule), str(rule))
        self.assertEqual(ring(Rule.read(TWICE) ** 2), first_ring(Rule.read(TWICE) ** 2, 5))

    def test_the_rule_stays_as_it_was(self):
        rule = Rule.read("0 stay 1 stay; 0 stay 2 go; 0 stay 1 stay")
        before = str(rule)
        self.assertIsNotNone(ring(rule))
        self.assertEqual(str(rule), before)


if __name__ == "__main__":
    unittest.main()

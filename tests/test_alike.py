"""Points 11 and 12: alike rules, parting sequences and least forms."""

import random
import unittest
from itertools import product

from pairahead.rules import Rule, front, late, marked, parting, still
from pairs import case_ahead, first_parting, made_up_rules, respelled


def form(rule):
    return (rule.rows, rule.starts)


def counting(count, goes):
    """A rule under which every call leads on by one state, and the last state has its own answer."""
    rows = [(min(state + 1, count - 1), False, min(state + 1, count - 1), False) for state in range(count - 1)]
    return Rule(rows + [(count - 1, False, count - 1, goes)])


def reached_classes(rule):
    """How many states can be reached and told apart, by trying all short calls in each of them."""
    reached = list(rule.starts)
    for state in reached:
        for behind in (False, True):
            after = rule.step(state, behind)[0]
            if after not in reached:
                reached.append(after)
    signs = set()
    for state in reached:
        signs.add(tuple([answers(rule, state, word) for word in product((False, True), repeat=len(rule))]))
    return len(signs)


def answers(rule, state, word):
    result = []
    for behind in word:
        state, changed = rule.step(state, behind)
        result.append(changed)
    return tuple(result)


class TestEqual(unittest.TestCase):
    def both(self, one, two, alike):
        self.assertIs(one == two, alike)
        self.assertIs(two == one, alike)
        self.assertIs(one != two, not alike)
        self.assertIs(two != one, not alike)

    def test_more_states(self):
        self.both(front(), Rule.read("1 stay 0 go; 0 stay 1 go"), True)
        self.both(still(), Rule.read("1 stay 1 stay; 0 stay 1 stay"), True)
        self.both(front(), Rule.read("0 stay 0 go; 0 fall 1 stay"), True)

    def test_another_order(self):
        self.both(late(), Rule.read("1 stay 0 go; 1 stay 2 stay; 0 stay 1 go | 1"), True)

    def test_respelled_rules(self):
        chance = random.Random(5)
        for rule in made_up_rules(2, 80, 6, (1, 2, 3)):
            self.both(rule, respelled(chance, rule), True)

    def test_one_entry_changed(self):
        rows = late().rows
        for row, at in product(range(3), range(4)):
            for entry in (False, True) if at in (1, 3) else (0, 1, 2):
                changed = [list(entries) for entries in rows]
                changed[row][at] = entry
                other = Rule(changed)
                self.both(late(), other, first_parting(late(), other, 6) is None)

    def test_one_start_changed(self):
        rows = [(0, False, 0, True), (1, False, 1, False)]
        self.both(Rule(rows, [0]), Rule(rows, [1]), False)
        self.both(Rule(rows, [0, 0, 0, 0]), Rule(rows, [0, 0, 1, 0]), False)
        self.both(Rule(rows, [0, 1, 1, 0]), Rule(rows, [0, 1, 1, 0]), True)

    def test_another_number_of_marks(self):
        self.both(Rule([(0, False, 0, True)], [0] * 4), front(), False)
        self.both(Rule([(0, False, 0, True)], [0] * 4), Rule([(0, False, 0, True)], [0] * 9), False)
        self.both(Rule([(0, False, 0, True)], [0] * 4), Rule([(0, False, 0, True)], [0] * 4), True)

    def test_other_things_are_not_equal(self):
        for other in (None, "0 stay 0 go", 1, front().rows):
            self.assertFalse(front() == other)
            self.assertTrue(front() != other)

    def test_rules_that_part_only_after_many_calls(self):
        self.both(counting(48, True), counting(48, False), False)
        self.both(counting(48, True), counting(47, True), False)
        self.both(counting(48, False), still(), True)


class TestParting(unittest.TestCase):
    def test_example_of_the_interface(self):
        self.assertEqual(parting(front(), late()), (0, 0, (1,)))

    def test_alike_rules_have_none(self):
        self.assertIsNone(parting(front(), front()))
        self.assertIsNone(parting(second=Rule.read("1 stay 0 go; 0 stay 1 go"), first=front()))

    def test_a_rule_under_which_cases_fall(self):
        self.assertEqual(parting(still(), Rule.read("0 fall 0 stay")), (0, 0, (0,)))
        # Both cases have changed places: 0 is behind, and its call moves it under only one of the rules.
        self.assertEqual(parting(Rule.read("0 fall 0 stay"), Rule.read("0 fall 0 go")), (0, 0, (1,)))
        one = Rule.read("1 fall 0 stay; 1 stay 1 go")
        two = Rule.read("1 fall 0 stay; 1 stay 1 stay")
        self.assertEqual(parting(one, two), (0, 0, (0, 0)))

    def test_the_kind_of_the_result(self):
        result = parting(front(), still())
        self.assertEqual(result, (0, 0, (1,)))
        self.assertIsInstance(result, tuple)
        self.assertIsInstance(result[2], tuple)

    def test_the_fewest_calls_go_before_the_least_marks(self):
        rows = [(0, False, 0, False), (1, False, 1, True), (2, False, 1, False)]
        self.assertEqual(parting(Rule(rows, [2, 0, 0, 1]), Rule(rows, [0, 0, 0, 0])), (1, 1, (1,)))

    def test_the_least_marks_go_before_the_least_calls(self):
        rows = [(0, False, 0, False), (0, False, 0, True), (0, True, 0, False)]
        self.assertEqual(parting(Rule(rows, [0, 0, 1, 2]), Rule(rows, [0, 0, 0, 0])), (1, 0, (1,)))
        self.assertEqual(parting(Rule(rows, [0, 2, 1, 0]), Rule(rows, [0, 0, 0, 0])), (0, 1, (0,)))

    def test_the_least_calls(self):
        rows = [(0, False, 0, False), (0, True, 0, True), (1, False, 1, False)]
        self.assertEqual(parting(Rule(rows, [1]), Rule(rows)), (0, 0, (0,)))
        self.assertEqual(parting(Rule(rows, [2]), Rule(rows)), (0, 0, (0, 0)))

    def test_three_and_four_marks(self):
        rows = [(0, False, 0, False), (0, False, 0, True)]
        for marks in (3, 4):
            for at in range(marks * marks):
                starts = [0] * (marks * marks)
                starts[at] = 1
                result = parting(Rule(rows, starts), Rule(rows, [0] * (marks * marks)))
                self.assertEqual(result, (at // marks, at % marks, (1,)))

    def test_against_all_sequences(self):
        for marks in (1, 2, 3):
            rules = made_up_rules(10 + marks, 24, 3, (marks,))
            for one, two in product(rules, repeat=2):
                self.assertEqual(parting(one, two), first_parting(one, two, 6))

    def test_a_long_one(self):
        self.assertEqual(parting(counting(48, True), counting(48, False)), (0, 0, (0,) * 47 + (1,)))
        self.assertEqual(parting(counting(48, True), counting(47, True)), (0, 0, (0,) * 46 + (1,)))

    def test_the_cases_are_those_of_the_beginning(self):
        for one, two in product(made_up_rules(33, 30, 5, (1,)), repeat=2):
            result = parting(one, two)
            if result is not None:
                first, second, calls = result
                ahead = [case_ahead(rule, first, second, calls) for rule in (one, two)]
                before = [case_ahead(rule, first, second, calls[:-1]) for rule in (one, two)]
                self.assertNotEqual(ahead[0], ahead[1])
                self.assertEqual(before[0], before[1])

    def test_arguments_stay_as_they_were(self):
        one, two = Rule.read("1 stay 0 go; 0 fall 1 stay"), late()
        texts = (str(one), str(two))
        parting(one, two)
        self.assertFalse(one == two)
        one.least()
        self.assertEqual((str(one), str(two)), texts)


class TestLeast(unittest.TestCase):
    def test_example_of_the_interface(self):
        rule = Rule([(1, False, 1, False), (0, False, 1, False)]).least()
        self.assertIsInstance(rule, Rule)
        self.assertEqual(str(rule), "0 stay 0 stay")

    def test_of_a_rule_in_least_form(self):
        for text in ("0 stay 0 go", "0 stay 1 stay; 2 stay 0 go; 0 stay 2 go", "1 fall 0 stay; 1 stay 0 go"):
            rule = Rule.read(text)
            self.assertEqual(str(rule.least()), text)
            self.assertIsNot(rule.least(), rule)

    def test_states_that_nothing_leads_to(self):
        self.assertEqual(str(Rule.read("0 stay 0 go; 0 fall 1 stay").least()), "0 stay 0 go")
        self.assertEqual(str(Rule.read("0 fall 1 stay; 1 stay 1 go | 1").least()), "0 stay 0 go")

    def test_the_state_after_the_case_ahead_is_visited_first(self):
        rule = Rule.read("2 stay 1 stay; 1 stay 1 go; 2 fall 2 go")
        self.assertEqual(str(rule.least()), "1 stay 2 stay; 1 fall 1 go; 2 stay 2 go")

    def test_all_starts_are_visited_before_all_else(self):
        rule = Rule.read("3 stay 2 stay; 1 stay 1 go; 2 fall 2 go; 3 fall 3 stay | 0 0 1 0")
        self.assertEqual(
            str(rule.least()), "2 stay 3 stay; 1 stay 1 go; 2 fall 2 stay; 3 fall 3 go | 0 0 1 0"
        )

    def test_states_are_taken_in_the_order_of_their_visit(self):
        # From 0 come 1 and 2; what follows 1 goes ahead of what follows 2.
        rule = Rule.read("1 stay 2 stay; 4 stay 1 go; 3 stay 2 stay; 3 fall 3 stay; 4 fall 4 go")
        self.assertEqual(
            str(rule.least()), "1 stay 2 stay; 3 stay 1 go; 4 stay 2 stay; 3 fall 3 go; 4 fall 4 stay"
        )

    def test_the_starts_of_several_marks(self):
        rule = Rule.read("0 stay 0 go; 1 stay 1 stay; 2 stay 2 go | 1 2 0 1")
        self.assertEqual(str(rule.least()), "0 stay 0 stay; 1 stay 1 go | 0 1 1 0")

    def test_the_least_form_is_alike_and_has_the_fewest_states(self):
        for rule in made_up_rules(7, 150, 5, (1, 2, 3)):
            least = rule.least()
            self.assertIsNone(first_parting(rule, least, 5))
            self.assertEqual(least.marks, rule.marks)
            self.assertEqual(len(least), reached_classes(rule))
            self.assertEqual(form(least.least()), form(least))

    def test_the_numbers_are_in_the_order_of_the_visit(self):
        for rule in made_up_rules(8, 150, 8, (1, 2, 3, 4)):
            least = rule.least()
            visited = []
            for state in least.starts:
                if state not in visited:
                    visited.append(state)
            for state in visited:
                for behind in (False, True):
                    after = least.step(state, behind)[0]
                    if after not in visited:
                        visited.append(after)
            self.assertEqual(visited, list(range(len(least))))

    def test_rules_are_alike_exactly_if_their_least_forms_are_the_same(self):
        chance = random.Random(9)
        rules = made_up_rules(12, 40, 2, (1,)) + made_up_rules(13, 20, 2, (2,))
        for rule in rules:
            self.assertEqual(form(respelled(chance, rule).least()), form(rule.least()))
        for one, two in product(rules, repeat=2):
            if one.marks == two.marks:
                self.assertEqual(form(one.least()) == form(two.least()), first_parting(one, two, 5) is None)

    def test_many_states(self):
        self.assertEqual(str(counting(48, False).least()), "0 stay 0 stay")
        self.assertEqual(form(counting(48, True).least()), form(counting(48, True)))
        self.assertEqual(len(marked([(1, "keep"), (2, "keep"), (3, "keep"), (0, "front")]).least()), 16)


if __name__ == "__main__":
    unittest.main()

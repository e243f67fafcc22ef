"""Points 13 to 15: powers, marked rules and the three named rules."""

import unittest
from itertools import product

from pairahead.errors import InvalidRule, TooGreat
from pairahead.rules import Rule, front, late, marked, still
from pairs import case_ahead, made_up_rules, sequences


def counted_ahead(rule, k, first, second, calls):
    """The case ahead if only every k-th call of a case counts; the marks are those of the power."""
    counts = [first % k, second % k]
    counting = []
    for case in calls:
        counts[case] = (counts[case] + 1) % k
        if counts[case] == 0:
            counting.append(case)
    return case_ahead(rule, first // k, second // k, counting)


def marked_ahead(rows, first, second, calls):
    """The case ahead if each case has a state of its own."""
    states = [first, second]
    order = [0, 1]
    for case in calls:
        after, word = rows[states[case]]
        states[case] = after
        if word != "keep":
            order.remove(case)
            order.insert(0 if word == "front" else 1, case)
    return order[0]


class TestPower(unittest.TestCase):
    def test_example_of_the_interface(self):
        self.assertTrue(front() ** 2 == marked([(1, "keep"), (0, "front")]))

    def test_exponents_one_to_four(self):
        for k in (1, 2, 3, 4):
            power = front() ** k
            self.assertIsInstance(power, Rule)
            self.assertEqual(power.marks, k)
            rows = [((count + 1) % k, "front" if count + 1 == k else "keep") for count in range(k)]
            self.assertEqual(str(power), str(marked(rows)))

    def test_the_first_power_is_the_least_form(self):
        for rule in made_up_rules(20, 30, 6, (1, 2, 3, 4)):
            self.assertEqual(str(rule ** 1), str(rule.least()))

    def test_against_counting(self):
        for rule in made_up_rules(21, 40, 3, (1,)):
            for k in (1, 2, 3, 4):
                self.check(rule, k)
        for rule in made_up_rules(22, 30, 6, (2,)):
            for k in (1, 2):
                self.check(rule, k)

    def check(self, rule, k):
        power = rule ** k
        self.assertEqual(power.marks, rule.marks * k)
        self.assertEqual(str(power), str(power.least()))
        for first, second in product(range(power.marks), repeat=2):
            for calls in sequences(6):
                self.assertEqual(
                    case_ahead(power, first, second, calls), counted_ahead(rule, k, first, second, calls)
                )

    def test_the_marks(self):
        # Mark 1 of the rule never moves, so the marks 2 and 3 of its square do not; mark 1 of the square has one call.
        rule = marked([(0, "front"), (1, "keep")])
        square = rule ** 2
        self.assertEqual(square.marks, 4)
        for first in range(4):
            self.assertEqual([case_ahead(square, first, second, (1,)) for second in range(4)], [0, 1, 0, 0])
            self.assertEqual([case_ahead(square, first, second, (1, 1)) for second in range(4)], [1, 1, 0, 0])

    def test_the_counts_go_with_the_cases_that_change_places(self):
        rule = Rule.read("0 fall 0 go") ** 2
        for calls in sequences(7):
            self.assertEqual(case_ahead(rule, 0, 1, calls), counted_ahead(Rule.read("0 fall 0 go"), 2, 0, 1, calls))

    def test_too_many_marks(self):
        for marks, k in ((1, 5), (2, 3), (2, 4), (3, 2), (4, 2), (1, 100), (4, 4)):
            with self.assertRaises(TooGreat):
                Rule([(0, False, 0, True)], [0] * (marks * marks)) ** k
        for marks, k in ((1, 4), (2, 2), (3, 1), (4, 1)):
            power = Rule([(0, False, 0, True)], [0] * (marks * marks)) ** k
            self.assertEqual(power.marks, marks * k)

    def test_too_many_states(self):
        for states, k in ((13, 2), (6, 3), (4, 4), (48, 2)):
            with self.assertRaises(TooGreat):
                Rule([(0, False, 0, True)] * states) ** k
        for states, k in ((12, 2), (5, 3), (3, 4), (48, 1)):
            self.assertEqual(Rule([(0, False, 0, True)] * states) ** k, front() ** k)

    def test_the_states_count_as_they_are_given(self):
        self.assertEqual(len(Rule([(0, False, 0, True)] * 13).least()), 1)
        with self.assertRaises(TooGreat):
            Rule([(0, False, 0, True)] * 13) ** 2

    def test_the_greatest_results(self):
        chain = Rule([((state + 1) % 12, False, state, state == 11) for state in range(12)])
        self.assertLessEqual(len(chain ** 2), 48)
        self.check(chain, 2)
        self.check(late(), 4)

    def test_the_rule_stays_as_it_was(self):
        rule = Rule.read("1 stay 0 go; 0 stay 1 go")
        rule ** 2
        with self.assertRaises(TooGreat):
            rule ** 5
        self.assertEqual(str(rule), "1 stay 0 go; 0 stay 1 go")


class TestMarked(unittest.TestCase):
    def test_one_row(self):
        self.assertEqual(str(marked([(0, "front")])), "0 stay 0 go")
        self.assertEqual(str(marked([(0, "back")])), "0 fall 0 stay")
        self.assertEqual(str(marked([(0, "keep")])), "0 stay 0 stay")

    def test_lists_and_tuples(self):
        rows = [[1, "keep"], [0, "front"]]
        rule = marked(rows)
        self.assertEqual(rows, [[1, "keep"], [0, "front"]])
        rows[0][1] = "back"
        rows.append([0, "back"])
        self.assertEqual(str(rule), str(marked(((1, "keep"), (0, "front")))))
        self.assertEqual(str(rule), str(marked(rows=((1, "keep"), [0, "front"]))))
        self.assertIsInstance(rule, Rule)

    def test_against_cases_with_states_of_their_own(self):
        words = ("front", "back", "keep")
        tables = [[(0, word)] for word in words]
        tables += [[(one, first), (two, second)] for one, two in product((0, 1), repeat=2)
                   for first, second in product(words, repeat=2)]
        tables += [
            [(1, "keep"), (2, "back"), (0, "front")], [(2, "front"), (2, "keep"), (1, "back")],
            [(1, "keep"), (2, "back"), (3, "keep"), (0, "front")], [(3, "back"), (0, "front"), (1, "keep"), (3, "front")],
        ]
        for rows in tables:
            rule = marked(rows)
            self.assertEqual(rule.marks, len(rows))
            self.assertEqual(str(rule), str(rule.least()))
            for first, second in product(range(len(rows)), repeat=2):
                for calls in sequences(6):
                    self.assertEqual(case_ahead(rule, first, second, calls), marked_ahead(rows, first, second, calls))

    def test_the_mark_is_the_first_state(self):
        rule = marked([(0, "keep"), (1, "front")])
        self.assertEqual([case_ahead(rule, first, second, (1,)) for first, second in product((0, 1), repeat=2)],
                         [0, 1, 0, 1])

    def refuse(self, rows):
        with self.assertRaises(InvalidRule, msg=repr(rows)):
            marked(rows)

    def test_no_row_and_five_rows(self):
        self.refuse([])
        self.refuse(())
        self.refuse([(0, "front")] * 5)
        self.assertEqual(marked([(0, "front")] * 4).marks, 4)

    def test_wrong_states(self):
        for wrong in (2, -1, True, False, None, "0", 10 ** 40):
            self.refuse([(0, "front"), (wrong, "keep")])
            self.refuse([(wrong, "front"), (0, "keep")])
        self.refuse([(1, "front")])

    def test_wrong_words(self):
        for wrong in ("Front", "go", "stay", "fall", "", "front ", None, 0, True, ["front"]):
            self.refuse([(0, wrong)])
            self.refuse([(0, "front"), (0, wrong)])


class TestNamed(unittest.TestCase):
    def test_texts(self):
        for rule, text in (
            (front(), "0 stay 0 go"), (still(), "0 stay 0 stay"), (late(), "0 stay 1 stay; 2 stay 0 go; 0 stay 2 go"),
        ):
            self.assertEqual(str(rule), text)
            self.assertEqual(rule.starts, (0,))
        self.assertEqual(late().rows, ((0, False, 1, False), (2, False, 0, True), (0, False, 2, True)))

    def test_each_is_new(self):
        for make in (front, still, late):
            self.assertIsNot(make(), make())

    def test_front_and_still(self):
        for calls in sequences(6):
            self.assertEqual(case_ahead(front(), 0, 0, calls), calls[-1] if calls else 0)
            self.assertEqual(case_ahead(still(), 0, 0, calls), 0)

    def test_late(self):
        for calls in sequences(10):
            ahead = 0
            for at, case in enumerate(calls):
                if case in calls[max(0, at - 2):at]:
                    ahead = case
            self.assertEqual(case_ahead(late(), 0, 0, calls), ahead)


if __name__ == "__main__":
    unittest.main()

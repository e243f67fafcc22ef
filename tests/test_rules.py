"""Points 7 to 10: rows, starts, steps and texts of rules."""

import unittest

from pairahead.errors import InvalidRule, PairError
from pairahead.rules import Rule, front
from pairs import made_up_rules

ROWS = [(1, False, 1, False), (0, True, 1, True)]


def chain(count):
    """Rows in which each state leads to the next one and the last one to the first one."""
    return [((state + 1) % count, False, state, True) for state in range(count)]


class TestRows(unittest.TestCase):
    def test_attributes(self):
        rule = Rule(ROWS, [0, 1, 1, 0])
        self.assertEqual(rule.rows, ((1, False, 1, False), (0, True, 1, True)))
        self.assertEqual(rule.starts, (0, 1, 1, 0))
        self.assertEqual(rule.marks, 2)
        self.assertEqual(set(vars(rule)), {"rows", "starts", "marks"})
        for row in rule.rows:
            self.assertEqual([type(entry) for entry in row], [int, bool, int, bool])

    def test_lists_and_tuples_give_the_same(self):
        kinds = [
            Rule(ROWS, [1]), Rule(tuple(ROWS), (1,)), Rule([list(row) for row in ROWS], (1,)),
            Rule(tuple([list(row) for row in ROWS]), [1]), Rule(starts=[1], rows=ROWS),
        ]
        for rule in kinds:
            self.assertEqual((rule.rows, rule.starts), (tuple(ROWS), (1,)))
            self.assertIsInstance(rule.rows, tuple)
            self.assertIsInstance(rule.rows[0], tuple)
            self.assertIsInstance(rule.starts, tuple)

    def test_changing_the_lists_afterwards_has_no_effect(self):
        rows = [list(row) for row in ROWS]
        starts = [1]
        rule = Rule(rows, starts)
        self.assertEqual((rows, starts), ([list(row) for row in ROWS], [1]))
        rows[0][0] = 0
        rows[1][1] = False
        rows.append([0, True, 0, True])
        starts[0] = 0
        starts.append(5)
        self.assertEqual((rule.rows, rule.starts), (tuple(ROWS), (1,)))

    def test_without_starts_a_rule_is_plain(self):
        rule = Rule(ROWS)
        self.assertEqual((rule.starts, rule.marks), ((0,), 1))

    def test_one_four_nine_and_sixteen_starts(self):
        for marks in (1, 2, 3, 4):
            rule = Rule(ROWS, [1] * (marks * marks))
            self.assertEqual((rule.marks, len(rule.starts)), (marks, marks * marks))

    def test_every_other_number_of_starts(self):
        for many in range(30):
            if many not in (1, 4, 9, 16):
                with self.assertRaises(InvalidRule):
                    Rule(ROWS, [0] * many)

    def test_one_to_forty_eight_rows(self):
        for many in (1, 2, 47, 48):
            self.assertEqual(len(Rule(chain(many))), many)
        for many in (49, 50, 200):
            with self.assertRaises(InvalidRule):
                Rule(chain(many))
        for none in ([], ()):
            with self.assertRaises(InvalidRule):
                Rule(none)

    def test_rows_of_another_length(self):
        for row in ((), (0,), (0, False, 0), (0, False, 0, False, 0), [0, False]):
            with self.assertRaises(InvalidRule):
                Rule([row])
            with self.assertRaises(InvalidRule):
                Rule([(0, False, 0, False), row])

    def test_states_that_are_none(self):
        for wrong in (2, 3, -1, -2, True, False, None, "0", "1", 10 ** 40, (0,)):
            for row in ((wrong, False, 0, False), (0, False, wrong, False)):
                with self.assertRaises(InvalidRule):
                    Rule([(0, False, 0, True), row])
                with self.assertRaises(InvalidRule):
                    Rule([row, (0, False, 0, True)])

    def test_truths_that_are_none(self):
        for wrong in (0, 1, None, "True", "stay", 2, ()):
            for row in ((0, wrong, 0, False), (0, False, 0, wrong)):
                with self.assertRaises(InvalidRule):
                    Rule([row])
                with self.assertRaises(InvalidRule):
                    Rule([(0, True, 0, True), row])

    def test_starts_that_are_none(self):
        for wrong in (2, -1, True, False, None, "0"):
            with self.assertRaises(InvalidRule):
                Rule(ROWS, [wrong])
            with self.assertRaises(InvalidRule):
                Rule(ROWS, [0, 1, 0, wrong])

    def test_invalid_rule_is_a_pair_error(self):
        with self.assertRaises(PairError):
            Rule([])

    def test_length_and_iteration(self):
        rule = Rule(ROWS)
        self.assertEqual(len(rule), 2)
        self.assertEqual(list(rule), ROWS)
        self.assertEqual([row for row in rule], ROWS)
        self.assertEqual(len(front()), 1)

    def test_methods_stand_in_the_class(self):
        for name in ("len", "iter", "str", "eq", "ne", "pow", "add", "mul", "rmul"):
            self.assertIn(f"__{name}__", vars(Rule))
        for name in ("read", "step", "least"):
            self.assertIn(name, vars(Rule))


class TestStep(unittest.TestCase):
    def test_example_of_the_interface(self):
        self.assertEqual(Rule.read("0 stay 1 stay; 0 stay 0 go").step(1, True), (0, True))

    def test_both_cases_in_each_state(self):
        rule = Rule([(1, True, 2, False), (0, False, 1, True), (2, False, 0, False)])
        self.assertEqual([rule.step(state, False) for state in range(3)], [(1, True), (0, False), (2, False)])
        self.assertEqual([rule.step(state, True) for state in range(3)], [(2, False), (1, True), (0, False)])
        result = rule.step(behind=True, state=1)
        self.assertIsInstance(result, tuple)
        self.assertEqual([type(entry) for entry in result], [int, bool])


class TestText(unittest.TestCase):
    def test_plain_rules(self):
        self.assertEqual(str(Rule(ROWS)), "1 stay 1 stay; 0 fall 1 go")
        self.assertEqual(str(Rule([(0, True, 0, False)])), "0 fall 0 stay")
        self.assertEqual(str(Rule([(0, False, 0, True)], [0])), "0 stay 0 go")

    def test_other_rules(self):
        self.assertEqual(str(Rule(ROWS, [1])), "1 stay 1 stay; 0 fall 1 go | 1")
        self.assertEqual(str(Rule(ROWS, [0, 1, 1, 0])), "1 stay 1 stay; 0 fall 1 go | 0 1 1 0")
        self.assertEqual(str(Rule([(0, False, 0, True)], [0] * 4)), "0 stay 0 go | 0 0 0 0")

    def test_states_of_two_digits(self):
        text = str(Rule(chain(12), [11]))
        self.assertTrue(text.startswith("1 stay 0 go; 2 stay 1 go; "))
        self.assertTrue(text.endswith("11 stay 10 go; 0 stay 11 go | 11"))

    def test_reading_back(self):
        rules = made_up_rules(1, 60, 48, (1, 2, 3, 4)) + [Rule(chain(48)), Rule(chain(48), [47] * 16), Rule(ROWS, [1])]
        for rule in rules:
            again = Rule.read(str(rule))
            self.assertEqual((again.rows, again.starts, again.marks), (rule.rows, rule.starts, rule.marks))
            self.assertEqual(str(again), str(rule))
        self.assertEqual(Rule.read(text="0 fall 0 stay").rows, ((0, True, 0, False),))

    def refuse(self, text):
        with self.assertRaises(InvalidRule, msg=repr(text)):
            Rule.read(text)

    def test_example_of_the_interface(self):
        self.refuse("0 stay 0 go | 0")

    def test_leading_zeros_and_signs(self):
        for text in (
            "00 stay 0 go", "0 stay 00 go", "+0 stay 0 go", "-0 stay 0 go", "-1 stay 0 go",
            "1 stay 0 go; 01 stay 0 go", "1 stay 0 go; 0 stay 0 go | 01", "1 stay 0 go; 0 stay 0 go | +1",
            "1 stay 0 go; 0 stay 0 go | 0 1 1 00", "0x0 stay 0 go", "0_0 stay 0 go", "0.0 stay 0 go",
            "\u0660 stay 0 go", "\u00b2 stay 0 go", "\uff10 stay 0 go", "1 stay 0 go; 0 stay 0 go | \u0661",
        ):
            self.refuse(text)

    def test_blanks_and_line_feeds(self):
        for text in (
            " 0 stay 0 go", "0 stay 0 go ", "0  stay 0 go", "0 stay 0  go", "0 stay\t0 go", "0 stay 0 go\n",
            "\n0 stay 0 go", "0 stay 0\ngo", "0\u00a0stay 0 go", "1 stay 0 go;0 stay 0 go", "1 stay 0 go ; 0 stay 0 go",
            "1 stay 0 go;  0 stay 0 go", "1 stay 0 go; 0 stay 0 go | 1 ", "1 stay 0 go; 0 stay 0 go |  1",
            "1 stay 0 go; 0 stay 0 go  | 1", "1 stay 0 go; 0 stay 0 go|1", "1 stay 0 go; 0 stay 0 go | 1\n",
            "1 stay 0 go; 0 stay 0 go | 0 1  1 0", "1 stay 0 go; 0 stay 0 go | 0\t1 1 0", "1 stay 0 go;\n0 stay 0 go",
        ):
            self.refuse(text)

    def test_missing_and_doubled_pieces(self):
        for text in (
            "", " ", ";", "; ", "|", " | ", " | 0", "0", "0 stay", "0 stay 0", "stay 0 go", "0 stay 0 go 0",
            "0 stay 0 go; ", "; 0 stay 0 go", "0 stay 0 go;", "0 stay 0 go; ; 0 stay 0 go", "0 stay 0 go |",
            "0 stay 0 go | ", "1 stay 0 go; 0 stay 0 go | 1 | 1", "1 stay 0 go; 0 stay 0 go | | 1",
            "0 0 stay 0 go", "0 stay stay 0 go", "0 stay 0 go 0 stay 0 go", "1 stay 0 go | 1; 0 stay 0 go",
            "1 stay 0 go; 0 stay 0 go | 1; 0", "1 stay 0 go; 0 stay 0 go 1", "1 stay 0 go, 0 stay 0 go",
        ):
            self.refuse(text)

    def test_wrong_words(self):
        for text in (
            "0 go 0 go", "0 stay 0 fall", "0 Stay 0 go", "0 stay 0 GO", "0 fall 0 fall", "0 keep 0 go", "0 stay 0 ",
            "0 True 0 False", "a stay 0 go", "0 stay None go", "0 stays 0 go", "stay 0 go 0",
        ):
            self.refuse(text)

    def test_the_starts_of_a_plain_rule(self):
        self.refuse("0 stay 0 go | 0")
        self.refuse("1 stay 0 go; 0 stay 0 go | 0")

    def test_states_and_numbers_that_no_rule_has(self):
        row = "0 stay 0 go"
        for text in (
            "1 stay 0 go", "0 stay 1 go", "0 stay 0 go | 1", "0 stay 0 go | 0 0", "0 stay 0 go | 0 0 0",
            "0 stay 0 go | 0 0 0 1", "0 stay 0 go | 0 0 0 0 0", "9" * 2900 + " stay 0 go", "0" * 3000,
            "; ".join([row] * 49), "1" * 5000 + " stay 0 go", "; ".join([row] * 400),
        ):
            self.refuse(text)
        self.assertEqual(len(Rule.read("; ".join([row] * 48))), 48)


if __name__ == "__main__":
    unittest.main()

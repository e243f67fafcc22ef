"""Point 53: rules that break claims, and the breaking sequences."""

import unittest
from itertools import product

from pairahead.claims import Claim
from pairahead.rules import Rule, front, late, marked, still
from pairs import first_breaking, is_allowed, made_up_claims, made_up_rules

LAST = Claim.read("0 0 last")
OTHER = Claim.read("0 0 other")
FREE = Claim.read("0 0 free")
NONE = Claim.read("0 0 none")
# The case called last must be ahead if it was called twice in a row, after both cases have been called.
SWITCH_THEN_TWICE = Claim.read("0 1 free; 2 1 free; 2 1 last")


class TestBreaking(unittest.TestCase):
    def assert_broken(self, claim, rule, expected):
        self.assertEqual(claim.broken(rule), expected, (str(claim), str(rule)))
        self.assertIs(rule in claim, False)
        self.assertIs(rule not in claim, True)

    def assert_kept(self, claim, rule):
        self.assertIsNone(claim.broken(rule), (str(claim), str(rule)))
        self.assertIs(rule in claim, True)
        self.assertIs(rule not in claim, False)

    def test_example_of_the_interface(self):
        self.assert_broken(LAST, late(), (0, 0, (1,)))

    def test_the_kind_of_the_result(self):
        result = LAST.broken(rule=late())
        self.assertEqual(result, (0, 0, (1,)))
        self.assertIsInstance(result, tuple)
        self.assertIsInstance(result[2], tuple)

    def test_rules_that_do_not_break_the_claim(self):
        self.assert_kept(LAST, front())
        self.assert_kept(OTHER, marked([(0, "back")]))
        for rule in (front(), still(), late(), Rule.read("0 fall 0 go"), late() ** 2):
            self.assert_kept(FREE, rule)
        # Under `late` a case that is called twice in a row goes ahead, or is ahead already.
        self.assert_kept(Claim.read("1 0 free; 1 0 last"), late())
        self.assert_kept(Claim.read("1 0 free; 1 0 last"), front())
        self.assert_kept(SWITCH_THEN_TWICE, late())

    def test_the_first_row(self):
        for rule in (front(), still(), late(), late() ** 2):
            self.assert_broken(NONE, rule, (0, 0, (0,)))
            self.assert_broken(Claim.read("1 1 none; 1 1 free"), rule, (0, 0, (0,)))
            self.assert_broken(Claim.read("1 0 free; 1 0 none"), rule, (0, 0, (0, 0)))
            self.assert_broken(Claim.read("0 1 free; 1 1 none"), rule, (0, 0, (0, 1)))
        self.assert_broken(OTHER, still(), (0, 0, (0,)))
        self.assert_broken(LAST, Rule.read("0 fall 0 stay"), (0, 0, (0,)))
        self.assert_broken(OTHER, Rule.read("0 fall 0 go"), (0, 0, (1,)))

    def test_nothing_is_claimed_before_the_first_call(self):
        self.assert_kept(Claim.read("0 0 other"), Rule.read("0 fall 0 stay"))
        self.assert_kept(Claim.read("0 0 last"), Rule.read("0 stay 0 go"))

    def test_only_after_both_cases_were_called(self):
        self.assert_broken(SWITCH_THEN_TWICE, still(), (0, 0, (0, 1, 1)))
        self.assert_broken(Claim.read("0 1 last; 1 1 other"), Rule.read("0 stay 1 stay; 1 stay 1 stay"), (0, 0, (1,)))
        self.assert_broken(Claim.read("0 1 free; 1 1 other"), front(), (0, 0, (0, 1)))
        self.assert_broken(Claim.read("0 1 free; 1 1 other"), still(), (0, 0, (1, 0)))

    def test_the_fewest_calls_go_before_the_least_marks(self):
        # In state 0 the case behind goes ahead, but the other one does not come back.
        rows = [(0, False, 1, True), (1, False, 1, False)]
        self.assert_broken(LAST, Rule(rows, [0] * 4), (0, 0, (1, 0)))
        self.assert_broken(LAST, Rule(rows, [0, 0, 0, 1]), (1, 1, (1,)))

    def test_the_least_marks_go_before_the_least_calls(self):
        stays, goes, falls = (0, False, 0, False), (1, False, 1, True), (2, True, 2, False)
        self.assert_broken(LAST, Rule([stays, goes, falls], [1, 1, 2, 1]), (1, 0, (0,)))
        self.assert_broken(LAST, Rule([stays, goes, falls], [1, 0, 2, 1]), (0, 1, (1,)))

    def test_the_least_calls(self):
        self.assert_broken(LAST, Rule.read("0 fall 0 stay"), (0, 0, (0,)))
        self.assert_broken(Claim.read("1 1 free; 0 0 none"), front(), (0, 0, (0, 0)))

    def test_only_the_last_marks(self):
        for marks in (2, 3, 4):
            rows = [(0, False, 0, True), (1, False, 1, False)]
            starts = [0] * (marks * marks - 1) + [1]
            self.assert_broken(LAST, Rule(rows, starts), (marks - 1, marks - 1, (1,)))
            self.assert_kept(LAST, Rule(rows, [0] * (marks * marks)))

    def test_against_all_sequences(self):
        claims = made_up_claims(81, 12, 4) + made_up_claims(82, 12, 4, ("free", "free", "free", "last", "other"))
        for marks, many in ((1, 14), (2, 6), (3, 3)):
            for claim, rule in product(claims, made_up_rules(80 + marks, many, 4, (marks,))):
                result = claim.broken(rule)
                expected = first_breaking(claim, rule, 5)
                if expected is not None or result is None or len(result[2]) <= 5:
                    self.assertEqual(result, expected, (str(claim), str(rule)))
                self.assertIs(rule in claim, result is None)

    def test_a_breaking_sequence_comes_with_its_last_call_only(self):
        claims = made_up_claims(84, 12, 9, ("free", "free", "free", "free", "last"))
        for claim, rule in product(claims, made_up_rules(85, 12, 6)):
            result = claim.broken(rule)
            if result is not None:
                marks, calls = result[:2], result[2]
                self.assertFalse(is_allowed(claim, rule, marks, calls))
                for length in range(1, len(calls)):
                    self.assertTrue(is_allowed(claim, rule, marks, calls[:length]))

    def test_a_long_one(self):
        # The calls of one case alone keep it ahead, but for the 47th, the 95th and so on: these make it fall.
        rule = Rule([(state + 1, state == 46, 1, True) for state in range(47)] + [(47, False, 0, True)])
        # Of the calls without one of the other case, the 45th, the 92nd and so on must leave the called case ahead.
        cycle = [((state + 1) - 47 * (state == 46), 47, "last" if state == 44 else "free") for state in range(47)]
        claim = Claim(cycle + [(47, 47, "free")])
        result = claim.broken(rule)
        self.assertEqual((result[:2], len(result[2]), set(result[2])), ((0, 0), 2207, {0}))
        self.assertFalse(is_allowed(claim, rule, (0, 0), result[2]))

    def test_operators_and_rules(self):
        for claim in made_up_claims(86, 25, 3):
            for rule in made_up_rules(87, 8, 3):
                self.assertIs(rule in claim & FREE, rule in claim)
                self.assertIs(rule in claim | NONE, rule in claim)
                self.assertIs(rule in ~~claim, rule in claim)
        self.assertIs(front() in LAST & FREE, True)
        self.assertIs(front() in ~OTHER, True)

    def test_the_rule_and_the_claim_stay_as_they_were(self):
        claim, rule = Claim.read("1 0 free; 1 0 other"), Rule.read("0 stay 1 stay; 0 stay 2 go; 0 stay 1 stay")
        self.assertIsNotNone(claim.broken(rule))
        self.assertEqual((str(claim), str(rule)), ("1 0 free; 1 0 other", "0 stay 1 stay; 0 stay 2 go; 0 stay 1 stay"))


if __name__ == "__main__":
    unittest.main()

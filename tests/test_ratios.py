"""Points 4 to 6 and the interface of pairahead/ratios.py."""

import operator
import unittest
from fractions import Fraction

from pairahead.ratios import Ratio

GREAT = 1234567890123456789012345678901234567890
TOPS = (-7, -4, -1, 0, 1, 2, 3, 6)
BOTTOMS = (-4, -1, 1, 2, 6)
PAIRS = [(top, bottom) for top in TOPS for bottom in BOTTOMS]


def parts(ratio):
    return (ratio.top, ratio.bottom)


def fraction_parts(fraction):
    return (fraction.numerator, fraction.denominator)


class TestForm(unittest.TestCase):
    def test_examples_of_the_interface(self):
        self.assertEqual(str(2 * Ratio(6, -8) + 1), "-1/2")
        self.assertEqual(Ratio(-7, 2) // 2, -2)
        self.assertIs(Ratio(7, 4) < 2, True)

    def test_lowest_terms_and_a_positive_denominator(self):
        self.assertEqual(parts(Ratio(6, 8)), (3, 4))
        self.assertEqual(parts(Ratio(6, -8)), (-3, 4))
        self.assertEqual(parts(Ratio(-6, -8)), (3, 4))
        self.assertEqual(parts(Ratio(8, 4)), (2, 1))
        self.assertEqual(parts(Ratio(5)), (5, 1))
        for top, bottom in PAIRS:
            self.assertEqual(parts(Ratio(top, bottom)), fraction_parts(Fraction(top, bottom)))

    def test_zero_is_zero_over_one(self):
        for bottom in (1, -1, 7, -12):
            self.assertEqual(parts(Ratio(0, bottom)), (0, 1))

    def test_denominator_zero(self):
        for top in (0, 1, -3):
            with self.assertRaises(ZeroDivisionError):
                Ratio(top, 0)

    def test_arguments_by_name(self):
        self.assertEqual(parts(Ratio(bottom=4, top=2)), (1, 2))
        self.assertEqual(parts(Ratio(top=2)), (2, 1))
        self.assertEqual(parts(Ratio(1).over(other=3)), (1, 3))

    def test_attributes_are_set_on_each_object(self):
        self.assertEqual(vars(Ratio(2, 4)), {"top": 1, "bottom": 2})

    def test_text(self):
        self.assertEqual(str(Ratio(7, 4)), "7/4")
        self.assertEqual(str(Ratio(-1, 2)), "-1/2")
        self.assertEqual(str(Ratio(1, -2)), "-1/2")
        self.assertEqual(str(Ratio(3)), "3")
        self.assertEqual(str(Ratio(-6, 2)), "-3")
        self.assertEqual(str(Ratio(0, 5)), "0")
        self.assertEqual(str(Ratio(GREAT, GREAT + 1)), f"{GREAT}/{GREAT + 1}")

    def test_truth(self):
        self.assertIs(bool(Ratio(0, 3)), False)
        self.assertIs(bool(Ratio(1, 3)), True)
        self.assertIs(bool(Ratio(-1, 3)), True)


class TestArithmetic(unittest.TestCase):
    def check(self, result, fraction):
        self.assertIsInstance(result, Ratio)
        self.assertEqual(parts(result), fraction_parts(fraction))

    def test_two_ratios(self):
        for act in (operator.add, operator.sub, operator.mul, operator.mod):
            for one in PAIRS:
                for two in PAIRS:
                    if act is operator.mod and two[0] == 0:
                        continue
                    self.check(act(Ratio(*one), Ratio(*two)), act(Fraction(*one), Fraction(*two)))

    def test_an_integer_on_the_right(self):
        for act in (operator.add, operator.sub, operator.mul, operator.mod):
            for one in PAIRS:
                for two in (-3, -1, 1, 2, GREAT):
                    self.check(act(Ratio(*one), two), act(Fraction(*one), two))

    def test_an_integer_on_the_left(self):
        for act in (operator.add, operator.sub, operator.mul):
            for one in (-3, 0, 1, 2, GREAT):
                for two in PAIRS:
                    self.check(act(one, Ratio(*two)), act(one, Fraction(*two)))

    def test_zero_beside_plus_minus_and_times(self):
        self.check(Ratio(3, 4) + 0, Fraction(3, 4))
        self.check(Ratio(3, 4) - 0, Fraction(3, 4))
        self.check(Ratio(3, 4) * 0, Fraction(0))
        self.check(sum([Ratio(1, 2), Ratio(1, 3)]), Fraction(5, 6))

    def test_minus_and_abs(self):
        for pair in PAIRS:
            self.check(-Ratio(*pair), -Fraction(*pair))
            self.check(abs(Ratio(*pair)), abs(Fraction(*pair)))

    def test_floor_of_the_quotient_is_an_integer(self):
        for one in PAIRS:
            for two in PAIRS:
                if two[0] != 0:
                    floor = Ratio(*one) // Ratio(*two)
                    self.assertIs(type(floor), int)
                    self.assertEqual(floor, Fraction(*one) // Fraction(*two))
            for two in (-5, -2, 1, 3):
                self.assertEqual(Ratio(*one) // two, Fraction(*one) // two)

    def test_floor_and_rest_of_negative_values(self):
        self.assertEqual(Ratio(-7, 2) // 2, -2)
        self.assertEqual(parts(Ratio(-7, 2) % 2), (1, 2))
        self.assertEqual(Ratio(7, 2) // -2, -2)
        self.assertEqual(parts(Ratio(7, 2) % -2), (-1, 2))
        self.assertEqual(Ratio(-7, 2) // Ratio(-2, 3), 5)
        self.assertEqual(parts(Ratio(-7, 2) % Ratio(-2, 3)), (-1, 6))

    def test_over(self):
        for one in PAIRS:
            for two in PAIRS:
                if two[0] != 0:
                    self.check(Ratio(*one).over(Ratio(*two)), Fraction(*one) / Fraction(*two))
            for two in (-3, 1, 4, GREAT):
                self.check(Ratio(*one).over(two), Fraction(*one) / two)

    def test_the_divisor_zero(self):
        for ratio in (Ratio(3, 4), Ratio(0), Ratio(-2)):
            for zero in (0, Ratio(0), Ratio(0, -5)):
                with self.assertRaises(ZeroDivisionError):
                    ratio // zero
                with self.assertRaises(ZeroDivisionError):
                    ratio % zero
                with self.assertRaises(ZeroDivisionError):
                    ratio.over(zero)

    def test_integers_of_forty_digits(self):
        one, two = Ratio(GREAT, GREAT + 1), Ratio(GREAT + 2, GREAT - 1)
        three, four = Fraction(GREAT, GREAT + 1), Fraction(GREAT + 2, GREAT - 1)
        self.check(one + two, three + four)
        self.check(one - two, three - four)
        self.check(one * two, three * four)
        self.check(one % two, three % four)
        self.check(one.over(two), three / four)
        self.assertEqual((one * GREAT) // two, (three * GREAT) // four)
        self.assertTrue(one < two and one < 1 and two > 1 and one != two)
        self.check(Ratio(GREAT * 6, GREAT * -4), Fraction(-3, 2))

    def test_operands_stay_as_they_were(self):
        one, two = Ratio(7, 4), Ratio(-2, 3)
        for act in (
            operator.add, operator.sub, operator.mul, operator.floordiv, operator.mod, operator.eq, operator.ne,
            operator.lt, operator.le, operator.gt, operator.ge,
        ):
            act(one, two)
            act(one, 5)
        one.over(two)
        self.assertEqual((-one, abs(two), bool(one), str(two)), (Ratio(-7, 4), Ratio(2, 3), True, "-2/3"))
        self.assertEqual((parts(one), parts(two)), ((7, 4), (-2, 3)))

    def test_results_are_new(self):
        one = Ratio(7, 4)
        for other in (one + 0, one - 0, one * 1, one.over(1), one % 5, abs(one), -one):
            self.assertIsNot(other, one)


class TestComparison(unittest.TestCase):
    ACTS = (operator.eq, operator.ne, operator.lt, operator.le, operator.gt, operator.ge)

    def test_with_ratios_and_integers(self):
        for act in self.ACTS:
            for one in PAIRS:
                for two in PAIRS:
                    self.assertIs(act(Ratio(*one), Ratio(*two)), act(Fraction(*one), Fraction(*two)))
                for two in (-7, -1, 0, 1, 2, GREAT):
                    self.assertIs(act(Ratio(*one), two), act(Fraction(*one), two))
                    self.assertIs(act(two, Ratio(*one)), act(two, Fraction(*one)))

    def test_true_and_false_are_no_integers(self):
        self.assertFalse(Ratio(1) == True)  # noqa: E712
        self.assertTrue(Ratio(0) != False)  # noqa: E712
        for act in (
            operator.add, operator.sub, operator.mul, operator.floordiv, operator.mod, operator.lt, operator.le,
            operator.gt, operator.ge,
        ):
            for other in (True, False, None, "1"):
                with self.assertRaises(TypeError):
                    act(Ratio(1), other)

    def test_other_things_are_not_equal(self):
        for other in (None, "1", (1, 1), [1]):
            self.assertFalse(Ratio(1) == other)
            self.assertTrue(Ratio(1) != other)

    def test_methods_stand_in_the_class(self):
        for name in (
            "add", "radd", "sub", "rsub", "mul", "rmul", "floordiv", "mod", "neg", "abs", "eq", "ne", "lt", "le",
            "gt", "ge", "bool", "str",
        ):
            self.assertIn(f"__{name}__", vars(Ratio))
        self.assertIn("over", vars(Ratio))


if __name__ == "__main__":
    unittest.main()

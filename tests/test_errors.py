"""Point 54 and the interface of pairahead/errors.py."""

import unittest

from pairahead import errors
from pairahead.errors import (
    CaseThere, Dearer, InvalidClaim, InvalidMark, InvalidMix, InvalidMove, InvalidRows, InvalidRule, NoCase, NoFactor,
    PairError, TooGreat, Unordered,
)

CLASSES = [
    CaseThere, Dearer, InvalidClaim, InvalidMark, InvalidMix, InvalidMove, InvalidRows, InvalidRule, NoCase, NoFactor,
    TooGreat, Unordered,
]


class TestClasses(unittest.TestCase):
    def test_each_is_a_pair_error_and_a_value_error(self):
        self.assertTrue(issubclass(PairError, ValueError))
        for kind in CLASSES:
            self.assertTrue(issubclass(kind, PairError), kind)

    def test_each_is_of_no_other_class_of_the_package(self):
        for kind in CLASSES:
            for other in CLASSES:
                self.assertEqual(issubclass(kind, other), kind is other, (kind, other))
            self.assertEqual(kind.__bases__, (PairError,))

    def test_the_file_defines_them_all_and_no_others(self):
        defined = [thing for thing in vars(errors).values() if isinstance(thing, type)]
        self.assertCountEqual(defined, CLASSES + [PairError])
        for kind in defined:
            self.assertEqual(kind.__module__, "pairahead.errors")

    def test_those_without_arguments_take_a_text(self):
        for kind in (PairError, InvalidRule, InvalidMix, InvalidRows, InvalidClaim, TooGreat):
            self.assertEqual(str(kind("some text")), "some text")
            with self.assertRaises(PairError):
                raise kind("some text")


class TestAttributes(unittest.TestCase):
    def check(self, kind, **values):
        by_name = kind(**values)
        by_position = kind(*values.values())
        for error in (by_name, by_position):
            for name, value in values.items():
                self.assertEqual(getattr(error, name), value)
                self.assertIn(name, vars(error))
            self.assertTrue(str(error))
            with self.assertRaises(kind):
                raise error

    def test_unordered(self):
        self.check(Unordered, marks=(0, 1, 0), calls=(2, 1, 2))

    def test_unordered_keeps_tuples(self):
        marks, calls = [0, 0, 1], [2]
        error = Unordered(marks, calls)
        marks[0] = 1
        calls.append(0)
        self.assertEqual((error.marks, error.calls), ((0, 0, 1), (2,)))

    def test_no_factor_keeps_a_tuple(self):
        marks = [0, 1]
        error = NoFactor(marks, "", "f")
        marks.append(2)
        self.assertEqual(error.marks, (0, 1))

    def test_names(self):
        self.check(NoCase, name="int")
        self.check(CaseThere, name="str")

    def test_invalid_mark(self):
        for mark in (4, -1, None, True, "0", 10 ** 5000):
            self.check(InvalidMark, mark=mark)

    def test_invalid_move(self):
        for place in (-1, 7, 10 ** 5000):
            self.check(InvalidMove, place=place)

    def test_no_factor(self):
        self.check(NoFactor, marks=(0, 1), lead="xf", loop="b")
        self.check(NoFactor, marks=(), lead="", loop="f")

    def test_dearer(self):
        self.check(Dearer, lead="", loop="01")


if __name__ == "__main__":
    unittest.main()

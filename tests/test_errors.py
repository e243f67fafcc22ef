"""Point 54 and the interface of pairahead/errors.py."""

import unittest

from pairahead import errors
from pairahead.balances import balance
from pairahead.claims import Claim
from pairahead.duels import Duel
from pairahead.errors import (
    CaseThere, Dearer, InvalidClaim, InvalidMark, InvalidMix, InvalidMove, InvalidRows, InvalidRule, NoCase, NoFactor,
    PairError, TooGreat, Unordered,
)
from pairahead.rivals import Rival
from pairahead.rowsets import RowSet
from pairahead.rules import Mix, Rule, front, marked, still
from pairahead.sites import Site
from pairahead.surplus import surplus

UNORDERED = Rule.read("0 stay 1 stay; 0 stay 0 go")
CLASSES = [
    CaseThere, Dearer, InvalidClaim, InvalidMark, InvalidMix, InvalidMove, InvalidRows, InvalidRule, NoCase, NoFactor,
    TooGreat, Unordered,
]


class TestClasses(unittest.TestCase):
    def test_each_is_a_pair_error_and_a_value_error(self):
        self.assertTrue(issubclass(PairError, ValueError))
        for kind in CLASSES:
            self.assertTrue(issubclass(kind, PairError), kind)

    def test_each_is_of_no_other_class_of_the_package(self):
        for kind in CLASSES:
            for other in CLASSES:
                self.assertEqual(issubclass(kind, other), kind is other, (kind, other))
            self.assertEqual(kind.__bases__, (PairError,))

    def test_the_file_defines_them_all_and_no_others(self):
        defined = [thing for thing in vars(errors).values() if isinstance(thing, type)]
        self.assertCountEqual(defined, CLASSES + [PairError])
        for kind in defined:
            self.assertEqual(kind.__module__, "pairahead.errors")

    def test_those_without_arguments_take_a_text(self):
        for kind in (PairError, InvalidRule, InvalidMix, InvalidRows, InvalidClaim, TooGreat):
            self.assertEqual(str(kind("some text")), "some text")
            with self.assertRaises(PairError):
                raise kind("some text")


class TestAttributes(unittest.TestCase):
    def check(self, kind, **values):
        by_name = kind(**values)
        by_position = kind(*values.values())
        for error in (by_name, by_position):
            for name, value in values.items():
                self.assertEqual(getattr(error, name), value)
                self.assertIn(name, vars(error))
            self.assertTrue(str(error))
            with self.assertRaises(kind):
                raise error

    def test_unordered(self):
        self.check(Unordered, marks=(0, 1, 0), calls=(2, 1, 2))

    def test_unordered_keeps_tuples(self):
        marks, calls = [0, 0, 1], [2]
        error = Unordered(marks, calls)
        marks[0] = 1
        calls.append(0)
        self.assertEqual((error.marks, error.calls), ((0, 0, 1), (2,)))

    def test_no_factor_keeps_a_tuple(self):
        marks = [0, 1]
        error = NoFactor(marks, "", "f")
        marks.append(2)
        self.assertEqual(error.marks, (0, 1))

    def test_names(self):
        self.check(NoCase, name="int")
        self.check(CaseThere, name="str")

    def test_invalid_mark(self):
        for mark in (4, -1, None, True, "0", 10 ** 5000):
            self.check(InvalidMark, mark=mark)

    def test_invalid_move(self):
        for place in (-1, 7, 10 ** 5000):
            self.check(InvalidMove, place=place)

    def test_no_factor(self):
        self.check(NoFactor, marks=(0, 1), lead="xf", loop="b")
        self.check(NoFactor, marks=(), lead="", loop="f")

    def test_dearer(self):
        self.check(Dearer, lead="", loop="01")

    def test_dearer_and_no_factor_by_hand(self):
        with self.assertRaises(Dearer) as caught:
            surplus(still(), front())
        self.assertEqual(set(vars(caught.exception)), {"lead", "loop"})
        with self.assertRaises(NoFactor) as caught:
            Duel(still())
        self.assertEqual(set(vars(caught.exception)), {"marks", "lead", "loop"})


class TestRaised(unittest.TestCase):
    """An error of each class as the package raises it, at each place where it does."""

    def check(self, kind, deed, **values):
        with self.assertRaises(ValueError) as caught:
            deed()
        error = caught.exception
        self.assertIs(type(error), kind)
        self.assertIsInstance(error, PairError)
        self.assertEqual([other for other in CLASSES if isinstance(error, other)], [kind])
        for name, value in values.items():
            self.assertEqual(getattr(error, name), value)
        self.assertIsInstance(str(error), str)

    def test_invalid_things(self):
        self.check(InvalidRule, lambda: Rule([]))
        self.check(InvalidRule, lambda: Rule.read("0 stay 0 went"))
        self.check(InvalidRule, lambda: marked([]))
        self.check(InvalidMix, lambda: Mix([]))
        self.check(InvalidMix, lambda: front() * 0)
        self.check(InvalidRows, lambda: RowSet([]))
        self.check(InvalidRows, lambda: RowSet.read("-"))
        self.check(InvalidClaim, lambda: Claim([]))
        self.check(InvalidClaim, lambda: Claim.read("0 0 never"))

    def test_too_great(self):
        names = [str(at) for at in range(13)]
        rows = [((at + 1) % 31, False, (at + 1) % 31, at == 0) for at in range(31)]
        turns = RowSet([((at + 1) % 9, (at + 1) % 9) for at in range(9)])
        self.check(TooGreat, lambda: front() ** 5)
        self.check(TooGreat, lambda: Site(front(), names))
        self.check(TooGreat, lambda: Site(front(), names[1:]).put("0"))
        self.check(TooGreat, lambda: Duel(Rule(rows), turns))

    def test_unordered(self):
        self.check(Unordered, lambda: Site(UNORDERED, []), marks=(0, 0, 0), calls=(2, 1, 2))
        self.check(Unordered, lambda: setattr(Site(front(), []), "rule", UNORDERED), marks=(0, 0, 0), calls=(2, 1, 2))

    def test_names_and_marks(self):
        site, rival = Site(front(), ["a"]), Rival(["a"])
        for deed in (site.call, site.drop, site.ahead, site.__getitem__, rival.call, rival.drop):
            self.check(NoCase, lambda: deed("z"), name="z")
        self.check(NoCase, lambda: site.pair("a", "z"), name="z")
        self.check(NoCase, lambda: site.repeat(["a", "z"], 0), name="z")
        self.check(CaseThere, lambda: site.put("a"), name="a")
        self.check(CaseThere, lambda: rival.put("a", 0), name="a")
        self.check(CaseThere, lambda: Site(front(), ["a", "a"]), name="a")
        self.check(InvalidMark, lambda: site.put("z", 1), mark=1)
        self.check(InvalidMark, lambda: Site(front(), ["a"], [-1]), mark=-1)

    def test_moves(self):
        rival = Rival(["a", "b"])
        self.check(InvalidMove, lambda: rival.call("a", 1), place=1)
        self.check(InvalidMove, lambda: rival.exchange(1), place=1)
        self.check(InvalidMove, lambda: rival.put("c", 3), place=3)

    def test_no_factor_and_dearer(self):
        self.check(NoFactor, lambda: Duel(still()), marks=(0, 0))
        self.check(NoFactor, lambda: Duel(1 * still()), marks=())
        self.check(NoFactor, lambda: balance([front(), still()]), marks=())
        self.check(Dearer, lambda: surplus(front(), still()))


if __name__ == "__main__":
    unittest.main()

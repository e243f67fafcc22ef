"""Points 32 and 33 and the interface of pairahead/rivals.py."""

import random
import unittest

from pairahead.errors import CaseThere, InvalidMove, NoCase, PairError
from pairahead.rivals import Rival


class TestMoves(unittest.TestCase):
    def test_a_new_rival(self):
        for names in (["a", "b", "c"], ("a", "b", "c")):
            for rival in (Rival(names), Rival(names=names)):
                self.assertEqual((rival.order, rival.cost, len(rival)), (["a", "b", "c"], 0, 3))
                self.assertIs(type(rival.cost), int)
                self.assertIn("cost", vars(rival))
                self.assertIn("b", rival)
                self.assertNotIn("d", rival)
                self.assertNotIn("", rival)

    def test_no_cases_and_many_cases(self):
        self.assertEqual((Rival([]).order, len(Rival(()))), ([], 0))
        names = [f"case {at}" for at in range(40)]
        rival = Rival(names)
        self.assertIsNone(rival.call("case 39"))
        self.assertEqual((rival.order, rival.cost), (names, 39))

    def test_calls(self):
        rival = Rival(["a", "b", "c", "d"])
        self.assertIsNone(rival.call("c"))
        self.assertEqual((rival.order, rival.cost), (["a", "b", "c", "d"], 2))
        self.assertIsNone(rival.call("d", 1))
        self.assertEqual((rival.order, rival.cost), (["a", "d", "b", "c"], 5))
        rival.call(name="c", to=0)
        self.assertEqual((rival.order, rival.cost), (["c", "a", "d", "b"], 8))
        rival.call("d", to=2)
        self.assertEqual((rival.order, rival.cost), (["c", "a", "d", "b"], 10))
        rival.call("c", 0)
        rival.call("c", None)
        self.assertEqual((rival.order, rival.cost), (["c", "a", "d", "b"], 10))

    def test_exchanges(self):
        rival = Rival(["a", "b", "c"])
        self.assertIsNone(rival.exchange(0))
        self.assertEqual((rival.order, rival.cost), (["b", "a", "c"], 1))
        rival.exchange(at=1)
        self.assertEqual((rival.order, rival.cost), (["b", "c", "a"], 2))
        rival.exchange(1)
        rival.exchange(1)
        self.assertEqual((rival.order, rival.cost), (["b", "c", "a"], 4))

    def test_newcomers_and_drops_cost_nothing(self):
        rival = Rival(["a", "b"])
        self.assertIsNone(rival.put("c", 2))
        rival.put(name="d", at=0)
        rival.put("e", 2)
        self.assertEqual((rival.order, rival.cost, len(rival)), (["d", "a", "e", "b", "c"], 0, 5))
        self.assertIsNone(rival.drop("a"))
        rival.drop(name="c")
        self.assertEqual((rival.order, rival.cost, len(rival)), (["d", "e", "b"], 0, 3))
        rival.put("a", 3)
        self.assertEqual(rival.order, ["d", "e", "b", "a"])
        empty = Rival([])
        empty.put("a", 0)
        self.assertEqual(empty.order, ["a"])

    def test_the_order_is_a_new_list_each_time(self):
        names = ["a", "b", "c"]
        rival = Rival(names)
        names.append("d")
        names[0] = "z"
        told = rival.order
        told.reverse()
        rival.order.clear()
        self.assertEqual((rival.order, told, len(rival)), (["a", "b", "c"], ["c", "b", "a"], 3))
        self.assertIsNot(rival.order, rival.order)
        before = rival.order
        rival.call("c", 0)
        self.assertEqual(before, ["a", "b", "c"])

    def test_a_rival_of_many_cases_against_rivals_of_two_cases(self):
        chance = random.Random(1)
        for _ in range(40):
            names = list("abcde")[:chance.randint(2, 5)]
            rival = Rival(names)
            pairs = {(one, two): Rival([one, two]) for at, two in enumerate(names) for one in names[:at]}
            for _ in range(30):
                if chance.random() < 0.4:
                    at = chance.randrange(len(names) - 1)
                    one, two = rival.order[at:at + 2]
                    rival.exchange(at)
                    pairs[(one, two) if (one, two) in pairs else (two, one)].exchange(0)
                else:
                    name = chance.choice(names)
                    to = chance.randint(0, rival.order.index(name))
                    rival.call(name, to)
                    for both, pair in pairs.items():
                        if name in both:
                            other = both[1 - both.index(name)]
                            ahead = rival.order.index(name) < rival.order.index(other)
                            pair.call(name, 0 if ahead else None)
                self.assertEqual(rival.cost, sum(pair.cost for pair in pairs.values()))
                for (one, two), pair in pairs.items():
                    self.assertEqual(pair.order, [name for name in rival.order if name in (one, two)])


class TestRefused(unittest.TestCase):
    def refuse(self, error, value, deed):
        rival = Rival(["a", "b", "c"])
        rival.call("b")
        with self.assertRaises(error) as caught:
            deed(rival)
        self.assertIsInstance(caught.exception, PairError)
        self.assertEqual(caught.exception.place if error is InvalidMove else caught.exception.name, value)
        self.assertEqual((rival.order, rival.cost, len(rival)), (["a", "b", "c"], 1, 3))

    def test_a_called_case_moves_too_far(self):
        for name, to in (("a", 1), ("a", -1), ("b", 2), ("b", -1), ("c", 3), ("c", 10 ** 30), ("c", -3)):
            self.refuse(InvalidMove, to, lambda rival: rival.call(name, to))

    def test_exchanges_where_there_are_no_two(self):
        for at in (-1, -2, -3, 2, 3, 10 ** 30):
            self.refuse(InvalidMove, at, lambda rival: rival.exchange(at))
        for names in ([], ["a"]):
            for at in (-1, 0, 1):
                with self.assertRaises(InvalidMove) as caught:
                    Rival(names).exchange(at)
                self.assertEqual(caught.exception.place, at)

    def test_a_newcomer_too_far(self):
        for at in (-1, -3, 4, 5):
            self.refuse(InvalidMove, at, lambda rival: rival.put("d", at))

    def test_names(self):
        for name in ("d", "", "A"):
            self.refuse(NoCase, name, lambda rival: rival.call(name))
            self.refuse(NoCase, name, lambda rival: rival.drop(name))
        for name in "abc":
            self.refuse(CaseThere, name, lambda rival: rival.put(name, 0))

    def test_two_errors_at_once(self):
        self.refuse(NoCase, "d", lambda rival: rival.call("d", -1))
        self.refuse(NoCase, "d", lambda rival: rival.call("d", 7))
        self.refuse(CaseThere, "a", lambda rival: rival.put("a", -1))
        self.refuse(CaseThere, "c", lambda rival: rival.put("c", 9))

    def test_a_dropped_name(self):
        rival = Rival(["a", "b"])
        rival.drop("a")
        with self.assertRaises(NoCase) as caught:
            rival.call("a", 0)
        self.assertEqual(caught.exception.name, "a")
        with self.assertRaises(InvalidMove):
            rival.exchange(0)


if __name__ == "__main__":
    unittest.main()

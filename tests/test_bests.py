"""Point 41 and the interface of pairahead/bests.py."""

import random
import time
import unittest
from itertools import permutations, product

from pairahead.bests import best_rival
from pairahead.rivals import Rival
from pairahead.rules import front
from pairahead.sites import Site


def exchanges_between(one, two):
    """How many exchanges of neighbours lead from one list to another one: one for each pair that stands otherwise."""
    return sum(two.index(name) > two.index(other) for at, other in enumerate(one) for name in one[:at])


def least_cost(names, calls):
    """The least cost, by trying all orders before and all places behind each call."""
    orders = list(permutations(names))
    steps = {one: {two: exchanges_between(one, two) for two in orders} for one in orders}
    costs = {tuple(names): 0}
    for name in calls:
        before = {two: min(cost + steps[one][two] for one, cost in costs.items()) for two in orders}
        costs = {}
        for order, cost in before.items():
            place = order.index(name)
            others = [other for other in order if other != name]
            for to in range(place + 1):
                after = tuple(others[:to] + [name] + others[to:])
                costs[after] = min(costs.get(after, cost + place), cost + place)
    return min(costs.values())


def drawn(seed, many, least=0, most=4, most_calls=12):
    chance = random.Random(seed)
    found = []
    for _ in range(many):
        names = ["b", "d", "a", "c"][:chance.randint(least, most)]
        calls = [chance.choice(names) for _ in range(chance.randint(0, most_calls) if names else 0)]
        found.append((names, calls))
    return found


class TestBestRival(unittest.TestCase):
    def check(self, names, calls):
        """Check the moves with a rival, and return the cost."""
        told = best_rival(names, calls)
        self.assertIs(type(told), tuple)
        cost, moves = told
        self.assertIs(type(cost), int)
        self.assertIs(type(moves), list)
        rival = Rival(names)
        called = []
        for move in moves:
            self.assertIs(type(move), tuple)
            if move[0] == "call":
                _, name, place = move
                rival.call(name, place)
                self.assertEqual(rival.order.index(name), place)
                called.append(name)
            else:
                kind, at = move
                self.assertEqual(kind, "exchange")
                rival.exchange(at)
        self.assertEqual(called, list(calls))
        self.assertEqual(rival.cost, cost)
        return cost

    def test_example_of_the_interface(self):
        self.assertEqual(best_rival(["a", "b"], ["b", "a"])[0], 1)
        self.check(["a", "b"], ["b", "a"])

    def test_no_calls(self):
        for names in ([], ["a"], ["a", "b", "c", "d"]):
            self.assertEqual(best_rival(names, []), (0, []))

    def test_one_case(self):
        self.assertEqual(best_rival(["a"], ["a"] * 12), (0, [("call", "a", 0)] * 12))

    def test_by_hand(self):
        self.assertEqual(self.check(["a", "b"], ["b"]), 1)
        self.assertEqual(self.check(["a", "b"], ["b", "b", "b"]), 1)
        self.assertEqual(self.check(["a", "b", "c"], ["c"] * 5), 2)
        self.assertEqual(self.check(["a", "b", "c"], ["c", "a", "c", "a"]), 3)
        self.assertEqual(self.check(["a", "b"], ["a", "b", "a", "b", "a"]), 2)

    def test_exchanges_that_are_worth_it(self):
        # Paying for an exchange before the calls can be cheaper than only moving called cases to the front.
        names, calls = ["a", "b", "c"], ["c", "b", "c", "b", "c", "b"]
        self.assertEqual(self.check(names, calls), least_cost(names, calls))
        with_exchanges = 0
        for names, calls in drawn(1, 150, 3):
            _, moves = best_rival(names, calls)
            with_exchanges += ("exchange" in [move[0] for move in moves])
            self.assertEqual(self.check(names, calls), least_cost(names, calls))
        self.assertGreater(with_exchanges, 0)

    def test_all_sequences_of_two_cases(self):
        for length in range(9):
            for calls in product("ab", repeat=length):
                self.assertEqual(self.check(["a", "b"], calls), least_cost(["a", "b"], calls))

    def test_all_short_sequences_of_three_cases(self):
        for length in range(6):
            for calls in product("abc", repeat=length):
                self.assertEqual(self.check(("a", "b", "c"), list(calls)), least_cost(["a", "b", "c"], calls))

    def test_drawn_sequences(self):
        for names, calls in drawn(2, 120):
            self.assertEqual(self.check(names, calls), least_cost(names, calls))

    def test_never_below_the_floor_and_never_above_front(self):
        for names, calls in drawn(3, 80):
            site = Site(front(), names)
            for name in calls:
                site.call(name)
            cost = best_rival(names, calls)[0]
            self.assertLessEqual(site.floor, cost)
            self.assertLessEqual(cost, site.cost)

    def test_by_name_and_as_tuples(self):
        one = best_rival(names=("a", "b", "c"), calls=("c", "a", "c"))
        self.assertEqual(one, best_rival(["a", "b", "c"], ["c", "a", "c"]))

    def test_the_same_again_though_the_told_list_was_changed(self):
        names, calls = ["a", "b", "c", "d"], ["d", "c", "b", "d", "c", "c"]
        cost, moves = best_rival(names, calls)
        before = list(moves)
        moves.clear()
        moves.append("changed")
        self.assertEqual(best_rival(names, calls), (cost, before))
        self.assertEqual((names, calls), (["a", "b", "c", "d"], ["d", "c", "b", "d", "c", "c"]))

    def test_four_names_and_twelve_calls_in_reasonable_time(self):
        begun = time.monotonic()
        for _, calls in drawn(4, 20, 4, 4, 0):
            self.check(["a", "b", "c", "d"], calls + list("dcbadcbaddcc"))
        self.assertLess(time.monotonic() - begun, 20)

    def test_somewhat_more_names_and_calls(self):
        names, calls = list("abcde"), list("edcbaedcbaedcb")
        self.assertEqual(self.check(names, calls), least_cost(names, calls))


if __name__ == "__main__":
    unittest.main()

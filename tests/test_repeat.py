"""Point 29: a row of names that is called many times."""

import random
import unittest

from models import Model, falling, ordering_rules, shape
from pairahead.errors import NoCase
from pairahead.rules import Rule, front, late, marked, still
from pairahead.sites import Site

TWELVE = [f"case {at}" for at in range(12)]
MANY = 10 ** 40


def drawn_site(chance, rule, names):
    site = Site(rule, names, [chance.randrange(rule.marks) for _ in names])
    for _ in range(chance.randint(0, 6)):
        site.call(chance.choice(names))
    return site


def counting(count):
    """A rule of so many states that counts the calls of the pair and never moves a case."""
    return Rule([((state + 1) % count, False, (state + 1) % count, False) for state in range(count)])


class TestRepeat(unittest.TestCase):
    def test_by_hand(self):
        site = Site(front(), ["a", "b", "c"])
        self.assertEqual(site.repeat(["c", "b"], 3), 2 + 2 + 1 + 1 + 1 + 1)
        self.assertEqual((site.order, site.cost, site.calls, site.floor), (["b", "c", "a"], 8, 6, 3))
        self.assertEqual(site.repeat(names=("a",), times=2), 2)

    def test_against_single_calls(self):
        chance = random.Random(1)
        for rule in ordering_rules(5, 15):
            for _ in range(6):
                names = ["a", "b", "c", "d"][:chance.randint(1, 4)]
                site = drawn_site(chance, rule, names)
                other = site.copy()
                row, times = [chance.choice(names) for _ in range(chance.randint(0, 7))], chance.randint(0, 40)
                before = other.cost
                for name in row * times:
                    other.call(name)
                self.assertEqual(site.repeat(row, times), other.cost - before)
                self.assertEqual(shape(site), shape(other))
                for one in (site, other):
                    one.put("z", rule.marks - 1)
                    one.repeat(names + ["z"], 3)
                self.assertEqual(shape(site), shape(other))

    def test_against_the_model(self):
        chance = random.Random(2)
        for rule in (late() ** 2, front() ** 3, falling()[2], falling()[3]):
            names = list("abc")
            site, model = Site(rule, names), Model(rule, names)
            for _ in range(6):
                row, times = [chance.choice(names) for _ in range(3)], chance.randint(0, 4)
                cost = site.repeat(row, times)
                self.assertEqual(cost, sum(model.call(name) for name in row * times))
                model.check(self, site)

    def test_no_times_and_no_names(self):
        for rule in (front(), late(), falling()[2]):
            site = Site(rule, ["a", "b"])
            site.call("b")
            before = shape(site)
            self.assertEqual([site.repeat(["a", "b"], 0), site.repeat([], 5), site.repeat((), MANY), site.repeat([], 0)],
                             [0, 0, 0, 0])
            self.assertEqual(shape(site), before)
        self.assertEqual(Site(front(), []).repeat([], MANY), 0)

    def test_names_that_are_not_there(self):
        site = Site(front(), ["a", "b"])
        site.call("b")
        before = shape(site)
        for names, times in ((["a", "y", "b", "x"], 3), (["y"], 0), (["a", "y"], 0), (["y", "x"], MANY)):
            with self.assertRaises(NoCase) as caught:
                site.repeat(names, times)
            self.assertEqual(caught.exception.name, "y")
            self.assertEqual(shape(site), before)

    def test_rows_of_four_hundred_names(self):
        chance = random.Random(3)
        for rule in (front(), late(), front() ** 3, falling()[3]):
            site = Site(rule, TWELVE, [chance.randrange(rule.marks) for _ in TWELVE])
            other = site.copy()
            row = [chance.choice(TWELVE) for _ in range(400)]
            for name in row * 2:
                other.call(name)
            self.assertEqual(site.repeat(tuple(row), 2), other.cost)
            self.assertEqual(shape(site), shape(other))
            self.assertEqual(len(row), 400)

    def test_a_times_and_then_b_times(self):
        chance = random.Random(4)
        for rule in ordering_rules(6, 10):
            names = list("abcd")
            site = drawn_site(chance, rule, names)
            other = site.copy()
            row = [chance.choice(names) for _ in range(chance.randint(1, 9))]
            first, second = chance.choice((1, 17, 10 ** 20 + 3)), chance.choice((2, 10 ** 39 + 11))
            costs = site.repeat(row, first) + site.repeat(row, second)
            self.assertEqual(costs, other.repeat(row, first + second))
            self.assertEqual(shape(site), shape(other))
            for one in (site, other):
                one.put("z")
                one.call("a")
            self.assertEqual(shape(site), shape(other))

    def test_very_many_times_by_hand(self):
        site = Site(front(), ["a", "b"])
        self.assertEqual(site.repeat(["a", "b"], MANY), 2 * MANY - 1)
        self.assertEqual((site.cost, site.calls, site.floor, site.order), (2 * MANY - 1, 2 * MANY, MANY, ["b", "a"]))
        self.assertEqual(site.repeat(["a"], MANY), 1)
        self.assertEqual((site.floor, site.calls), (MANY, 3 * MANY))
        site = Site(still(), ["a", "b", "c"])
        self.assertEqual(site.repeat(["c", "b"], MANY), 3 * MANY)

    def test_very_many_times_of_twelve_cases(self):
        chance = random.Random(5)
        # With 47 states the round of a pair is long.
        for rule in (front(), late() ** 4, front() ** 4, falling()[3], counting(47), counting(48)):
            site = Site(rule, TWELVE)
            row = [chance.choice(TWELVE) for _ in range(400)]
            other = site.copy()
            cost = site.repeat(row, MANY)
            self.assertEqual(cost, other.repeat(row, MANY // 2) + other.repeat(row, MANY // 2))
            self.assertEqual(shape(site), shape(other))
            self.assertEqual(site.calls, 400 * MANY)

    def test_newcomers_behind_very_many_calls(self):
        rule = marked([(1, "keep"), (2, "back"), (0, "front")])
        for rest in range(6):
            few, many = Site(rule, ["a", "b"]), Site(rule, ["a", "b"])
            few.repeat(["a"], 6 + rest)
            many.repeat(["a"], 6 * 10 ** 39 + rest)
            for site in (few, many):
                site.put("c", 1)
                site.call("c")
                site.put("d")
            self.assertEqual(shape(few)[:3], shape(many)[:3])

    def test_a_newcomer_of_a_rule_that_counts(self):
        rule = Rule([((at + 1) % 48, False, at, False) for at in range(48)])
        site = Site(rule, ["a", "b"])
        site.repeat(["a", "b", "a"], MANY - 1)
        site.repeat(["a"], 5)
        site.put("c")
        self.assertEqual(site.pair("a", "c"), ("a", (2 * (MANY - 1) + 5) % 48))
        self.assertEqual(site.pair("b", "c"), ("b", (MANY - 1) % 48))
        self.assertEqual(site.pair("a", "b"), ("a", (2 * (MANY - 1) + 5) % 48))

    def test_ledgers_count(self):
        site = Site(front(), ["a", "b"])
        with site.ledger() as book:
            cost = site.repeat(["a", "b"], MANY)
            self.assertEqual((book.cost, book.calls), (cost, 2 * MANY))
            site.call("a")
        self.assertEqual((book.cost, book.calls), (cost + 1, 2 * MANY + 1))

    def test_arguments_stay_as_they_were(self):
        site, row = Site(front(), ["a", "b"]), ["a", "b"]
        site.repeat(row, 10)
        self.assertEqual(row, ["a", "b"])
        site.repeat(site.order, 3)
        self.assertEqual(len(site.order), 2)


if __name__ == "__main__":
    unittest.main()

"""Points 21 to 23 and 25: newcomers, dropped cases, exchanged rules and the four numbers."""

import random
import unittest

from models import Model, falling, ordering_rules, shape
from pairahead.errors import Unordered
from pairahead.orders import ring
from pairahead.rules import Rule, front, late, marked, still
from pairahead.sites import Site

UNORDERED = Rule.read("0 stay 1 stay; 0 stay 0 go")
NAMES = list("abcdefg")


def do_both(chance, site, model, most_cases=5):
    """One drawn deed, done to both."""
    there = model.order
    absent = [name for name in NAMES if name not in there]
    kind = chance.choice(("call",) * 5 + ("put", "put", "drop", "assign", "repeat"))
    if kind == "put" and len(there) < most_cases:
        name, mark = chance.choice(absent), chance.randrange(model.rule.marks)
        site.put(name, mark)
        model.put(name, mark)
    elif kind == "drop" and there:
        name = chance.choice(there)
        site.drop(name)
        model.drop(name)
    elif kind == "assign" and there:
        name, target = chance.choice(there), object()
        site[name] = target
        model.targets[name] = target
    elif kind == "repeat" and there:
        names, times = [chance.choice(there) for _ in range(chance.randint(0, 4))], chance.randint(0, 3)
        site.repeat(names, times)
        for name in names * times:
            model.call(name)
    elif there:
        name = chance.choice(there)
        site.call(name)
        model.call(name)


class TestNewcomers(unittest.TestCase):
    def test_second_example_of_the_interface(self):
        site = Site(front() ** 2, ["b", "a"])
        site.call("a")
        site.put("c")
        site.repeat(["a", "b", "b", "c", "c", "a"], 1)
        self.assertEqual(site.order, ["c", "b", "a"])

    def test_at_the_end(self):
        for rule in (front(), late(), still(), front() ** 2):
            site = Site(rule, ["a", "b"])
            site.repeat(["b", "a", "a"], 7)
            site.put("c")
            self.assertEqual(site.order[2], "c")

    def test_further_ahead_under_a_rule_under_which_called_cases_fall(self):
        site = Site(marked([(0, "back")]), ["a", "b", "c"])
        site.call("b")
        site.put("d")
        # b has fallen behind all others once, and so behind the newcomer, too.
        self.assertEqual(site.order, ["a", "c", "d", "b"])
        self.assertEqual((site.cost, site.pairs), (2, 6))
        site.call("c")
        site.put("e")
        self.assertEqual(site.order, ["a", "d", "e", "b", "c"])

    def test_the_calls_before_it_came_count(self):
        # After two calls of the case ahead the pair is in state 2.
        rule = Rule([(1, False, 0, False), (2, False, 1, False), (2, False, 2, False)])
        site = Site(rule, ["a", "b"])
        site.repeat(["a"], 1)
        site.put("c")
        self.assertEqual((site.pair("a", "c"), site.pair("b", "c")), (("a", 1), ("b", 0)))
        site.repeat(["b", "a"], 5)
        site.put("d")
        self.assertEqual([site.pair(name, "d")[1] for name in "abc"], [2, 2, 0])
        site.drop("a")
        site.put("a")
        self.assertEqual([site.pair(name, "a")[1] for name in "bcd"], [2, 0, 0])

    def test_its_mark(self):
        rule = front() ** 2
        site = Site(rule, ["a", "b"], [1, 0])
        site.put("c", 1)
        site.put(name="d", mark=0)
        self.assertEqual(site.pair("a", "c"), ("a", rule.starts[3]))
        self.assertEqual(site.pair("b", "c"), ("b", rule.starts[1]))
        self.assertEqual(site.pair("a", "d"), ("a", rule.starts[2]))
        self.assertEqual(site.pair("c", "d"), ("c", rule.starts[2]))
        site.call("c")
        self.assertEqual(site.order, ["c", "a", "b", "d"])

    def test_putting_costs_nothing(self):
        site = Site(marked([(0, "back")]), ["a"])
        site.call("a")
        before = (site.cost, site.calls, site.floor)
        self.assertIsNone(site.put("b"))
        self.assertEqual((site.cost, site.calls, site.floor), before)
        self.assertEqual(site.order, ["b", "a"])

    def test_amid_deeds_against_the_model(self):
        chance = random.Random(1)
        for rule in ordering_rules(3, 20) + falling() * 2:
            names = NAMES[:chance.randint(0, 4)]
            marks = [chance.randrange(rule.marks) for _ in names]
            site, model = Site(rule, names, marks), Model(rule, names, marks)
            for _ in range(30):
                do_both(chance, site, model)
                model.check(self, site)


class TestDropped(unittest.TestCase):
    def test_a_drop_costs_nothing(self):
        site = Site(front(), ["a", "b", "c"])
        site.call("c")
        self.assertIsNone(site.drop("a"))
        self.assertEqual((site.order, site.cost, site.calls, site.pairs, len(site)), (["c", "b"], 2, 1, 3, 2))
        self.assertNotIn("a", site)
        self.assertIsNone(site.drop(name="c"))
        self.assertEqual(list(site), ["b"])

    def test_a_name_that_is_put_in_again_is_a_new_case(self):
        rule = front() ** 2
        site = Site(rule, ["a", "b"], [1, 1])
        site["a"] = "old"
        site.call("a")
        site.drop("a")
        site.put("a")
        self.assertEqual(site["a"], "a")
        self.assertEqual(site.pair("a", "b"), ("b", rule.starts[2]))
        self.assertEqual(site.pairs, 2)
        site.call("a")
        self.assertEqual(site.order, ["b", "a"])
        site.call("a")
        self.assertEqual(site.order, ["a", "b"])

    def test_pairs_are_counted_also_of_dropped_cases(self):
        site = Site(front(), ["a", "b"])
        for many in range(1, 8):
            site.drop("a")
            site.put("a")
            self.assertEqual(site.pairs, 1 + many)
        site.put("c")
        self.assertEqual(site.pairs, 10)

    def test_the_floor_of_a_dropped_pair_stays(self):
        site = Site(front(), ["a", "b"])
        site.repeat(["a", "b"], 5)
        self.assertEqual(site.floor, 5)
        site.drop("b")
        self.assertEqual(site.floor, 5)
        site.call("a")
        site.put("b")
        site.call("b")
        self.assertEqual(site.floor, 5)
        site.call("a")
        self.assertEqual(site.floor, 6)


class TestExchangedRules(unittest.TestCase):
    def test_all_begins_again_but_the_list_and_the_targets(self):
        chance = random.Random(2)
        rules = ordering_rules(4, 12)
        for _ in range(40):
            rule = chance.choice(rules)
            names = NAMES[:chance.randint(0, 5)]
            marks = [chance.randrange(rule.marks) for _ in names]
            site, model = Site(rule, names, marks), Model(rule, names, marks)
            for _ in range(3):
                for _ in range(8):
                    do_both(chance, site, model)
                other = chance.choice(rules)
                order, targets = site.order, [site[name] for name in site]
                site.rule = other
                model.exchange(other)
                self.assertIs(site.rule, other)
                self.assertEqual(site.order, order)
                self.assertEqual([site[name] for name in site], targets)
                model.check(self, site)
                fresh = Site(other, order)
                self.assertEqual(shape(site)[2:], shape(fresh)[2:])
            for _ in range(10):
                do_both(chance, site, model)
                model.check(self, site)

    def test_for_the_same_object_and_for_an_alike_rule(self):
        rule = front() ** 2
        for other in (rule, front() ** 2, rule.least(), marked([(1, "keep"), (0, "front")])):
            site = Site(rule, ["a", "b", "c"], [1, 0, 1])
            for name in "cbab":
                site.call(name)
            order = site.order
            site.rule = other
            self.assertIs(site.rule, other)
            self.assertEqual((site.order, site.cost, site.calls, site.pairs, site.floor), (order, 0, 0, 3, 0))
            for name in order[1:]:
                self.assertEqual(site.pair(order[0], name), (order[0], other.starts[0]))
            site.call(order[2])
            self.assertEqual(site.order, order)
            site.call(order[2])
            self.assertEqual(site.order, [order[2], order[0], order[1]])

    def test_all_cases_count_as_having_come_at_this_moment(self):
        site = Site(marked([(0, "back")]), ["a", "b"])
        site.call("a")
        site.rule = site.rule
        site.put("c")
        self.assertEqual(site.order, ["b", "a", "c"])
        site.call("b")
        site.put("d")
        self.assertEqual(site.order, ["a", "c", "d", "b"])

    def test_dropped_pairs_no_longer_count(self):
        site = Site(front(), ["a", "b", "c"])
        site.drop("c")
        site.rule = front()
        self.assertEqual((site.pairs, site.order), (1, ["a", "b"]))

    def test_refused(self):
        site = Site(late(), ["a", "b", "c"])
        site["b"] = 5
        for name in "cbabcc":
            site.call(name)
        before, rule = shape(site), site.rule
        with self.assertRaises(Unordered) as caught:
            site.rule = UNORDERED
        self.assertEqual((caught.exception.marks, caught.exception.calls), ring(UNORDERED))
        self.assertEqual(shape(site), before)
        self.assertIs(site.rule, rule)

    def test_open_ledgers_go_on(self):
        site = Site(front(), ["a", "b"])
        with site.ledger() as book:
            site.call("b")
            site.rule = late()
            site.call("a")
            self.assertEqual((book.cost, book.calls, book.closed), (2, 2, False))
        self.assertEqual((site.cost, site.calls, book.closed), (1, 1, True))


if __name__ == "__main__":
    unittest.main()

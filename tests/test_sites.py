"""Points 18 to 20, 24 and 25 and the interface of pairahead/sites.py: sites, their calls, their targets."""

import random
import unittest

from models import Model, falling, ordering_rules, shape
from pairahead.errors import CaseThere, InvalidMark, NoCase, PairError, TooGreat, Unordered
from pairahead.orders import ring
from pairahead.rules import Rule, front, late, marked, still
from pairahead.sites import Site

UNORDERED = Rule.read("0 stay 1 stay; 0 stay 0 go")
TWELVE = [f"case {at}" for at in range(12)]


class TestExamples(unittest.TestCase):
    def test_first_example_of_the_interface(self):
        site = Site(front(), ["int", "str", "list"])
        target = site.call("list")
        self.assertEqual((target, site.cost, site.order, site.floor), ("list", 2, ["list", "int", "str"], 0))

    def test_a_new_site(self):
        site = Site(front(), ["a", "b", "c"])
        self.assertEqual((site.order, list(site), len(site)), (["a", "b", "c"], ["a", "b", "c"], 3))
        self.assertEqual((site.cost, site.calls, site.pairs, site.floor), (0, 0, 3, 0))
        self.assertEqual([site[name] for name in "abc"], ["a", "b", "c"])
        self.assertEqual([site.ahead(name) for name in "abc"], [0, 1, 2])
        for name in ("cost", "calls", "pairs", "floor"):
            self.assertIs(type(getattr(site, name)), int)

    def test_no_cases_and_one_case(self):
        for rule in (front(), late(), front() ** 2):
            empty = Site(rule, [])
            self.assertEqual((empty.order, list(empty), len(empty), empty.pairs), ([], [], 0, 0))
            one = Site(rule, ("a",))
            self.assertEqual(one.call("a"), "a")
            self.assertEqual((one.order, one.cost, one.calls, one.pairs, one.floor), (["a"], 0, 1, 0, 0))

    def test_lists_and_tuples(self):
        rule = front() ** 2
        for names, marks in ((["a", "b"], [0, 1]), (("a", "b"), (0, 1)), (["a", "b"], (0, 1))):
            site = Site(rule, names, marks)
            self.assertEqual(site.pair("a", "b"), ("a", rule.starts[1]))
        for marks in ([], ()):
            self.assertEqual(Site(rule, ["a", "b"], marks).pair("a", "b"), ("a", rule.starts[0]))

    def test_by_name(self):
        rule = front() ** 2
        site = Site(rule=rule, names=["a", "b"], marks=[1, 0])
        self.assertIs(site.rule, rule)
        self.assertEqual(site.pair("a", "b"), ("a", rule.starts[2]))

    def test_names_are_compared_by_value(self):
        site = Site(front(), ["int", "a b~", " "])
        self.assertEqual(site.call("in" + "t"), "int")
        self.assertEqual(site.ahead("".join(["a", " b", "~"])), 1)
        self.assertIn("a b~", site)
        self.assertNotIn("A b~", site)
        self.assertNotIn("", site)


class TestLists(unittest.TestCase):
    def test_lists_that_are_changed_afterwards(self):
        names, marks = ["a", "b", "c"], [0, 1, 0]
        site = Site(front() ** 2, names, marks)
        names.append("d")
        names[0] = "z"
        marks[0] = 1
        self.assertEqual((site.order, len(site)), (["a", "b", "c"], 3))
        site.order.append("d")
        site.order[0] = "z"
        self.assertEqual((site.order, len(site), "a" in site), (["a", "b", "c"], 3, True))
        self.assertIsNot(site.order, site.order)
        self.assertEqual((names, marks), (["z", "b", "c", "d"], [1, 1, 0]))

    def test_a_list_that_was_read_before_a_call(self):
        site = Site(front(), ["a", "b", "c"])
        before, names = site.order, iter(site)
        site.call("c")
        self.assertEqual(before, ["a", "b", "c"])
        self.assertEqual(list(names), ["a", "b", "c"])
        self.assertEqual([name for name in site for _ in (0, 1) if site.call(name)], ["c", "c", "a", "a", "b", "b"])

    def test_arguments_stay_as_they_were(self):
        rule, names = late() ** 2, ["a", "b", "c"]
        text = str(rule)
        site = Site(rule, names)
        site.repeat(names, 5)
        site.call("b")
        self.assertEqual((str(rule), names), (text, ["a", "b", "c"]))


class TestCalls(unittest.TestCase):
    def test_costs_by_hand(self):
        site = Site(front(), ["a", "b", "c"])
        site.call("c")
        site.call("c")
        site.call("b")
        self.assertEqual((site.cost, site.calls, site.order), (4, 3, ["b", "c", "a"]))
        site = Site(still(), ["a", "b", "c"])
        for name in "ccb":
            site.call(name)
        self.assertEqual((site.cost, site.order), (5, ["a", "b", "c"]))

    def test_a_case_that_falls_behind_costs_more(self):
        site = Site(marked([(0, "back")]), ["a", "b", "c"])
        site.call("a")
        self.assertEqual((site.cost, site.order), (2, ["b", "c", "a"]))
        site.call("c")
        self.assertEqual((site.cost, site.order), (4, ["b", "a", "c"]))
        site.call("c")
        self.assertEqual((site.cost, site.order), (6, ["b", "a", "c"]))

    def test_marks(self):
        # With the mark 1 the first call counts, with the mark 0 the second one.
        for marks, order in (([0, 0, 0], "abc"), ([0, 0, 1], "cab"), ([1, 1, 0], "abc"), ([0, 1, 1], "cab")):
            site = Site(front() ** 2, ["a", "b", "c"], marks)
            site.call("c")
            self.assertEqual(site.order, list(order))

    def test_against_the_model(self):
        chance = random.Random(1)
        for rule in ordering_rules(2, 20):
            for names in (["a", "b"], ["a", "b", "c"], list("dbcae")):
                marks = [chance.randrange(rule.marks) for _ in names]
                for given in (marks, None):
                    site = Site(rule, names) if given is None else Site(rule, names, given)
                    model = Model(rule, names, given)
                    model.check(self, site)
                    for _ in range(12):
                        name = chance.choice(names)
                        cost = site.cost
                        self.assertIs(site.call(name), model.targets[name])
                        self.assertEqual(site.cost - cost, model.call(name))
                        model.check(self, site)

    def test_twelve_cases_against_the_model(self):
        chance = random.Random(2)
        for rule in (front(), late(), front() ** 3, falling()[3]):
            marks = [chance.randrange(rule.marks) for _ in TWELVE]
            site, model = Site(rule, TWELVE, marks), Model(rule, TWELVE, marks)
            for _ in range(25):
                name = chance.choice(TWELVE)
                site.call(name)
                model.call(name)
            model.check(self, site)

    def test_the_result_of_a_call(self):
        site = Site(front(), ["a", "b"])
        site["a"] = 17
        self.assertEqual((site.call("a"), site.call(name="b")), (17, "b"))


class TestAsked(unittest.TestCase):
    def test_pairs(self):
        site = Site(late(), ["a", "b", "c"])
        site.call("b")
        self.assertEqual(site.pair("a", "b"), ("a", 1))
        self.assertEqual(site.pair("b", "a"), ("a", 1))
        self.assertEqual(site.pair(name="b", other="c"), ("b", 0))
        self.assertIs(type(site.pair("a", "b")), tuple)
        self.assertEqual(site.ahead(name="c"), 2)

    def test_names_that_are_not_there(self):
        site = Site(front(), ["a", "b", "c"])
        for name in ("d", "", "A", "a ", "ab"):
            for ask in (lambda: site.call(name), lambda: site.ahead(name), lambda: site[name], lambda: site.drop(name),
                        lambda: site.pair(name, "a"), lambda: site.pair("a", name), lambda: site.pair(name, "z"),
                        lambda: site.repeat(["a", name, "z"], 3), lambda: site.repeat([name], 0)):
                before = shape(site)
                with self.assertRaises(NoCase) as caught:
                    ask()
                self.assertEqual(caught.exception.name, name)
                self.assertEqual(shape(site), before)
            self.assertNotIn(name, site)

    def test_the_first_of_two_names(self):
        site = Site(front(), ["a"])
        with self.assertRaises(NoCase) as caught:
            site.pair("x", "y")
        self.assertEqual(caught.exception.name, "x")

    def test_a_dropped_name(self):
        site = Site(front(), ["a", "b"])
        site.drop("a")
        with self.assertRaises(NoCase) as caught:
            site.call("a")
        self.assertEqual(caught.exception.name, "a")
        with self.assertRaises(NoCase):
            site.drop("a")


class TestRefused(unittest.TestCase):
    def refuse(self, error, rule, names, marks=()):
        with self.assertRaises(error) as caught:
            Site(rule, names, marks)
        self.assertIsInstance(caught.exception, PairError)
        return caught.exception

    def test_a_rule_that_does_not_order(self):
        marks, calls = ring(UNORDERED)
        for names in ([], ["a"], ["a", "b", "c"]):
            error = self.refuse(Unordered, UNORDERED, names)
            self.assertEqual((error.marks, error.calls), (marks, calls))
        power = UNORDERED ** 2
        error = self.refuse(Unordered, power, ["a"])
        self.assertEqual((error.marks, error.calls), ring(power))

    def test_a_name_twice(self):
        self.assertEqual(self.refuse(CaseThere, front(), ["a", "a"]).name, "a")
        self.assertEqual(self.refuse(CaseThere, front(), ["a", "b", "c", "b", "a"]).name, "b")
        self.assertEqual(self.refuse(CaseThere, front(), ("a", "b", "a", "b")).name, "a")

    def test_marks_that_are_none(self):
        rule = front() ** 3
        for mark in (3, 4, -1, True, False, None, "0", 10 ** 30):
            error = self.refuse(InvalidMark, rule, ["a", "b", "c"], [0, mark, 7])
            self.assertIs(error.mark, mark)
        self.assertEqual(self.refuse(InvalidMark, front(), ["a"], [1]).mark, 1)
        self.assertEqual(self.refuse(InvalidMark, front(), ["a", "b"], (0, -1)).mark, -1)
        self.assertEqual(len(Site(rule, ["a", "b", "c"], [0, 1, 2])), 3)

    def test_too_many_cases(self):
        self.assertEqual(len(Site(front(), TWELVE)), 12)
        self.assertEqual(Site(front(), TWELVE).pairs, 66)
        self.refuse(TooGreat, front(), TWELVE + ["z"])
        self.refuse(TooGreat, front() ** 2, TWELVE + ["y", "z"], [1] * 14)

    def test_two_errors_at_once(self):
        many = TWELVE + ["z"]
        self.refuse(Unordered, UNORDERED, ["a", "a"])
        self.refuse(Unordered, UNORDERED, ["a"], [5])
        self.refuse(Unordered, UNORDERED, many)
        self.refuse(CaseThere, front(), ["a", "a"], [7, 0])
        self.refuse(CaseThere, front(), many + ["z"])
        self.refuse(InvalidMark, front(), many, [0] * 12 + [1])
        self.refuse(Unordered, UNORDERED, many + ["z"], [9] * 14)
        self.refuse(CaseThere, front(), many + ["z"], [9] * 14)

    def test_putting(self):
        site = Site(front() ** 2, ["a", "b"])
        before = shape(site)
        for name, mark, error in (("a", 0, CaseThere), ("b", 7, CaseThere), ("c", 2, InvalidMark), ("c", -1, InvalidMark),
                                  ("c", True, InvalidMark), ("c", None, InvalidMark)):
            with self.assertRaises(error) as caught:
                site.put(name, mark)
            told = caught.exception
            self.assertIs(told.name if error is CaseThere else told.mark, name if error is CaseThere else mark)
            self.assertEqual(shape(site), before)

    def test_a_thirteenth_case(self):
        site = Site(front() ** 2, TWELVE)
        site.call("case 5")
        before = shape(site)
        with self.assertRaises(TooGreat):
            site.put("z")
        with self.assertRaises(TooGreat):
            site["z"] = 1
        with self.assertRaises(InvalidMark):
            site.put("z", 2)
        with self.assertRaises(CaseThere):
            site.put("case 3", 2)
        self.assertEqual(shape(site), before)
        self.assertNotIn("z", site)
        site["case 3"] = 4
        self.assertEqual(site["case 3"], 4)
        site.drop("case 0")
        site["z"] = 1
        self.assertEqual((len(site), site["z"]), (12, 1))
        with self.assertRaises(TooGreat):
            site.put("case 0")


class TestTargets(unittest.TestCase):
    def test_the_very_object(self):
        site = Site(front(), ["a", "b", "c"])
        for target in ([1, 2], {"k": 1}, object(), None, True, (1,), "b", len, site):
            site["b"] = target
            self.assertIs(site["b"], target)
            self.assertIs(site.call("b"), target)
            self.assertEqual(site.order, ["b", "a", "c"])
            self.assertEqual(site["a"], "a")

    def test_none_is_a_target_that_is_assigned(self):
        site = Site(front(), ["a"])
        site["a"] = None
        self.assertIsNone(site["a"])
        self.assertIsNone(site.call("a"))
        site["b"] = None
        self.assertIsNone(site["b"])

    def test_a_list_that_is_changed_later(self):
        site = Site(front(), ["a"])
        target = [1]
        site["a"] = target
        target.append(2)
        self.assertEqual(site["a"], [1, 2])
        site.call("a").append(3)
        self.assertEqual(target, [1, 2, 3])
        self.assertIs(site["a"], target)

    def test_calls_keep_the_targets(self):
        site = Site(late(), ["a", "b", "c"])
        targets = {name: [name] for name in "abc"}
        for name in "abc":
            site[name] = targets[name]
        for name in "cabbac":
            self.assertIs(site.call(name), targets[name])
        site.repeat(["a", "c"], 10 ** 20)
        site.drop("b")
        site.put("d", 0, targets)
        for name in "ac":
            self.assertIs(site[name], targets[name])
        self.assertIs(site["d"], targets)

    def test_an_assignment_costs_nothing_and_moves_nothing(self):
        site = Site(front(), ["a", "b"])
        site.call("b")
        before = (site.order, site.cost, site.calls, site.pairs, site.floor, site.pair("a", "b"))
        site["a"] = 5
        self.assertEqual((site.order, site.cost, site.calls, site.pairs, site.floor, site.pair("a", "b")), before)

    def test_an_assignment_to_a_new_name_puts_it_in_with_mark_0(self):
        rule = front() ** 2
        site, other = Site(rule, ["a", "b"], [1, 0]), Site(rule, ["a", "b"], [1, 0])
        for one in (site, other):
            one.call("b")
        target = ["t"]
        site["c"] = target
        other.put("c", 0, target)
        self.assertEqual(shape(site), shape(other))
        self.assertIs(site["c"], target)
        self.assertEqual((site.cost, site.calls, site.pairs), (1, 1, 3))

    def test_the_target_of_a_newcomer(self):
        site = Site(front(), ["a"])
        self.assertIsNone(site.put("b"))
        site.put("c", 0, None)
        target = []
        site.put(name="d", mark=0, target=target)
        site.put("e", 0, 0)
        self.assertEqual([site[name] for name in "bce"], ["b", "c", 0])
        self.assertIs(site["d"], target)


if __name__ == "__main__":
    unittest.main()

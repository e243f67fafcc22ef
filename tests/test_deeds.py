"""Points 30 and 31 and the interface of pairahead/deeds.py."""

import random
import unittest

from models import ordering_rules, shape
from pairahead.deeds import audited, perform
from pairahead.errors import CaseThere, InvalidMark, NoCase, PairError, TooGreat, Unordered
from pairahead.rules import Rule, front, late, still
from pairahead.sites import Ledger, Site

UNORDERED = Rule.read("0 stay 1 stay; 0 stay 0 go")
MANY = 10 ** 40


def new_site(rule=None):
    return Site(rule or front(), ["a", "b", "c"])


class TestPerform(unittest.TestCase):
    def test_example_of_the_interface(self):
        site = Site(front(), ["a", "b"])
        results = perform(site, [("call", "b"), ("try", [("call", "a"), ("call", "c")]), ("repeat", ["a", "b"], 10)])
        self.assertEqual(results, ["b", None, 20])

    def test_each_kind_and_its_result(self):
        site, other = new_site(), new_site()
        target, rule = [5], front() ** 2
        deeds = [("call", "c"), ("put", "d", 0), ("drop", "a"), ("assign", "b", target), ("call", "b"),
                 ("assign", "e", None), ("repeat", ("d", "b"), 3), ("rule", rule), ("put", "f", 1), ("call", "e"),
                 ("repeat", ["b"], 0), ("try", ()), ("try", [("call", "f")])]
        results = perform(site, deeds)
        self.assertEqual(len(results), 13)
        self.assertEqual(results[:1] + results[5:6] + results[7:], ["c", None, None, None, None, 0, [], ["f"]])
        self.assertEqual((results[1], results[2], results[3]), (None, None, None))
        self.assertIs(results[4], target)
        other.call("c")
        other.put("d", 0)
        other.drop("a")
        other["b"] = target
        other.call("b")
        other["e"] = None
        self.assertEqual(results[6], other.repeat(["d", "b"], 3))
        other.rule = rule
        other.put("f", 1)
        self.assertEqual(results[9], other.call("e"))
        other.call("f")
        self.assertEqual(shape(site), shape(other))
        self.assertIs(site.rule, rule)

    def test_lists_and_tuples(self):
        for kind in (list, tuple):
            site = new_site()
            deeds = kind([("call", "b"), ("try", kind([("call", "c"), ("try", kind([("call", "a")]))]))])
            results = perform(site=site, deeds=deeds)
            self.assertEqual(results, ["b", ["c", ["a"]]])
            self.assertEqual([type(results), type(results[1]), type(results[1][1])], [list] * 3)
            self.assertEqual(perform(site, kind([])), [])

    def test_an_error_takes_all_back(self):
        errors = [(("call", "z"), NoCase), (("put", "a", 0), CaseThere), (("put", "z", 1), InvalidMark),
                  (("drop", "z"), NoCase), (("rule", UNORDERED), Unordered), (("repeat", ["a", "z"], 0), NoCase)]
        for deed, error in errors:
            site = new_site()
            site.call("b")
            before, rule = shape(site), site.rule
            with self.assertRaises(error):
                perform(site, [("call", "c"), ("put", "d", 0), ("assign", "b", 5), ("call", "d"), deed, ("call", "c")])
            self.assertEqual(shape(site), before)
            self.assertIs(site.rule, rule)

    def test_the_rule_goes_back_too(self):
        site = new_site()
        site.call("b")
        before, rule = shape(site), site.rule
        with self.assertRaises(NoCase):
            perform(site, [("rule", late()), ("drop", "a"), ("put", "d", 0), ("repeat", ["c", "d"], MANY), ("drop", "a")])
        self.assertEqual(shape(site), before)
        self.assertIs(site.rule, rule)

    def test_assigning_a_thirteenth_case(self):
        names = [f"case {at}" for at in range(12)]
        site = Site(front(), names)
        before = shape(site)
        with self.assertRaises(TooGreat):
            perform(site, [("call", "case 3"), ("assign", "case 3", 1), ("assign", "z", 1)])
        self.assertEqual(shape(site), before)
        self.assertEqual(perform(site, [("try", [("put", "z", 0)]), ("call", "case 3")]), [None, "case 3"])

    def test_other_errors_go_on_and_take_back(self):
        site = new_site()
        before = shape(site)
        with self.assertRaises(TypeError):
            perform(site, [("call", "c"), ("try", [("call", "b"), ("repeat", ["a"], None)])])
        self.assertEqual(shape(site), before)

    def test_arguments_stay_as_they_were(self):
        row = ["a", "b"]
        deeds = [("call", "c"), ("repeat", row, 3), ("try", [("call", "z")])]
        site = new_site()
        one = perform(site, deeds)
        one.append("changed")
        self.assertEqual(deeds, [("call", "c"), ("repeat", ["a", "b"], 3), ("try", [("call", "z")])])
        self.assertEqual(len(perform(site, deeds)), 3)
        self.assertEqual(row, ["a", "b"])


class TestTries(unittest.TestCase):
    def test_done_and_taken_back(self):
        site = new_site()
        results = perform(site, [("try", [("call", "b"), ("call", "c")]), ("try", [("call", "a"), ("drop", "z")]),
                                 ("try", [("assign", "a", 7), ("call", "z")]), ("call", "a")])
        self.assertEqual(results, [["b", "c"], None, None, "a"])
        self.assertEqual((site.order, site.cost, site.calls), (["a", "c", "b"], 5, 3))

    def test_only_the_inner_one_is_taken_back(self):
        site = new_site()
        results = perform(site, [("try", [("call", "b"), ("try", [("call", "c"), ("call", "z")]), ("call", "b")])])
        self.assertEqual(results, [["b", None, "b"]])
        self.assertEqual((site.order, site.calls), (["b", "a", "c"], 2))

    def test_an_error_behind_an_inner_one_takes_both_back(self):
        site = new_site()
        results = perform(site, [("try", [("try", [("call", "c")]), ("call", "z")]), ("call", "b")])
        self.assertEqual(results, [None, "b"])
        self.assertEqual((site.order, site.calls), (["b", "a", "c"], 1))

    def test_five_deep(self):
        def deep(level, last):
            deeds = [("call", "abc"[level % 3])]
            if level < 6:
                deeds.append(("try", deep(level + 1, last)))
            else:
                deeds.extend(last)
            return deeds

        site, other = new_site(), new_site()
        results = perform(site, deep(0, []))
        self.assertEqual(results, ["a", ["b", ["c", ["a", ["b", ["c", ["a"]]]]]]])
        results = perform(other, deep(0, [("call", "z")]))
        self.assertEqual(results, ["a", ["b", ["c", ["a", ["b", ["c", None]]]]]])
        self.assertEqual((site.calls, other.calls), (7, 6))

    def test_every_error_of_the_package(self):
        names = [f"case {at}" for at in range(12)]
        site = Site(front(), names)
        deeds = [("call", "z"), ("drop", "z"), ("put", "case 1", 0), ("put", "z", 1), ("put", "z", 0),
                 ("assign", "z", 1), ("rule", UNORDERED), ("repeat", ["z"], 0)]
        for deed in deeds:
            before = shape(site)
            self.assertEqual(perform(site, [("try", [("call", "case 9"), deed])]), [None])
            self.assertEqual(shape(site), before)
            with self.assertRaises(PairError):
                perform(site, [deed])

    def test_drawn_deeds_against_single_ones(self):
        chance = random.Random(1)
        for rule in ordering_rules(9, 10):
            site = Site(rule, list("abc"))
            for _ in range(12):
                deeds = drawn_deeds(chance, 2)
                other, expected, error = by_hand(site, deeds)
                if error is None:
                    self.assertEqual(perform(site, deeds), expected)
                else:
                    with self.assertRaises(type(error)):
                        perform(site, deeds)
                self.assertEqual(shape(site), shape(other))


def drawn_deeds(chance, depth):
    deeds = []
    for _ in range(chance.randint(0, 4)):
        kind = chance.choice(("call", "call", "call", "put", "drop", "assign", "repeat", "try"))
        name = chance.choice("abcd")
        if kind == "put":
            deeds.append((kind, name, 0))
        elif kind == "assign":
            deeds.append((kind, name, chance.randint(0, 9)))
        elif kind == "repeat":
            deeds.append((kind, [name, chance.choice("abc")], chance.randint(0, 3)))
        elif kind != "try":
            deeds.append((kind, name))
        elif depth > 0:
            deeds.append((kind, drawn_deeds(chance, depth - 1)))
    return deeds


def by_hand(site, deeds):
    """A site that has done the deeds one by one, their results and no error; or the site itself, None and the error."""
    done = site.copy()
    results = []
    try:
        for deed in deeds:
            if deed[0] == "try":
                done, inner, _ = by_hand(done, deed[1])
                results.append(inner)
            elif deed[0] == "assign":
                done[deed[1]] = deed[2]
                results.append(None)
            else:
                results.append(getattr(done, deed[0])(*deed[1:]))
    except PairError as error:
        return site, None, error
    return done, results, None


class TestAudits(unittest.TestCase):
    def test_done(self):
        site = new_site()
        told = audited(site, [("call", "c"), ("repeat", ["a", "b"], 2), ("put", "d", 0)])
        self.assertIs(type(told), tuple)
        results, book = told
        self.assertEqual(results, ["c", 5, None])
        self.assertIsInstance(book, Ledger)
        self.assertEqual((book.cost, book.calls, book.closed), (7, 5, True))
        self.assertEqual((site.cost, site.calls), (7, 5))
        site.call("a")
        self.assertEqual((book.cost, book.calls), (7, 5))

    def test_taken_back(self):
        site = new_site()
        site.call("b")
        before = shape(site)
        results, book = audited(site=site, deeds=(("call", "c"), ("repeat", ["a", "b"], 2), ("call", "z"), ("call", "a")))
        self.assertIsNone(results)
        self.assertEqual(shape(site), before)
        self.assertEqual((book.calls, book.closed), (5, True))
        self.assertEqual(book.cost, 2 + 2 + 2 + 1 + 1)

    def test_tries_within(self):
        site = new_site()
        results, book = audited(site, [("try", [("call", "c"), ("call", "z")]), ("call", "b"), ("rule", late())])
        self.assertEqual(results, [None, "b", None])
        self.assertEqual((book.cost, book.calls), (3, 2))
        self.assertEqual((site.order, site.calls), (["b", "a", "c"], 0))

    def test_nothing(self):
        site = new_site()
        results, book = audited(site, [])
        self.assertEqual((results, book.cost, book.calls, book.closed), ([], 0, 0, True))

    def test_within_a_ledger(self):
        site = Site(still(), ["a", "b"])
        with site.ledger() as outer:
            _, inner = audited(site, [("repeat", ["b"], MANY), ("call", "z")])
            site.call("b")
        self.assertEqual((inner.cost, outer.cost, site.cost), (MANY, MANY + 1, 1))

    def test_other_errors_go_on(self):
        site = new_site()
        before = shape(site)
        with self.assertRaises(TypeError):
            audited(site, [("call", "c"), ("repeat", ["a"], None)])
        self.assertEqual(shape(site), before)
        # The ledger of this audit is closed: it does not stand in the way of others.
        results, book = audited(site, [("call", "b")])
        self.assertEqual((results, book.cost), (["b"], 1))


if __name__ == "__main__":
    unittest.main()

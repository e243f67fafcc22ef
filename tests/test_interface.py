"""The whole interface: where its names are defined, and all of them by the names of their arguments."""

import importlib
import inspect
import unittest

from pairahead.balances import Balance, balance
from pairahead.bests import best_rival
from pairahead.claims import Claim
from pairahead.deeds import audited, perform
from pairahead.duels import Duel
from pairahead.orders import orders, ring
from pairahead.ratios import Ratio
from pairahead.rivals import Rival
from pairahead.rowsets import RowSet
from pairahead.rules import Mix, Rule, front, late, marked, parting, still
from pairahead.sites import Ledger, Site
from pairahead.surplus import never_dearer, surplus

# For each file its functions and classes with the names of their arguments, and the methods of the classes.
FILES = {
    "ratios": {"Ratio": ("top bottom", {"over": "other"})},
    "rules": {
        "Rule": ("rows starts", {"read": "text", "step": "state behind", "least": ""}), "Mix": ("parts", {}), "front": "",
        "still": "", "late": "", "marked": "rows", "parting": "first second",
    },
    "orders": {"ring": "rule", "orders": "rule"},
    "rowsets": {"RowSet": ("rows", {"read": "text", "runs": "least most", "least": ""})},
    "claims": {"Claim": ("rows", {"read": "text", "verdict": "calls", "broken": "rule"})},
    "duels": {"Duel": ("side within", {"excess": "node"})},
    "balances": {"Balance": ("value weights loops", {}), "balance": "rules"},
    "surplus": {"surplus": "first second", "never_dearer": "first second"},
    "rivals": {"Rival": ("names", {"call": "name to", "exchange": "at", "put": "name at", "drop": "name"})},
    "sites": {
        "Site": ("rule names marks", {
            "call": "name", "ahead": "name", "pair": "name other", "put": "name mark target", "drop": "name",
            "repeat": "names times", "copy": "", "turn": "", "ledger": "",
        }),
        "Ledger": ("", {}),
    },
    "deeds": {"perform": "site deeds", "audited": "site deeds"},
    "bests": {"best_rival": "names calls"},
    "errors": {
        "PairError": None, "InvalidRule": None, "InvalidMix": None, "InvalidRows": None, "InvalidClaim": None,
        "TooGreat": None, "Unordered": ("marks calls", {}), "NoCase": ("name", {}), "CaseThere": ("name", {}),
        "InvalidMark": ("mark", {}), "InvalidMove": ("place", {}), "NoFactor": ("marks lead loop", {}),
        "Dearer": ("lead loop", {}),
    },
}
OPERATORS = {
    Ratio: "add radd sub rsub mul rmul floordiv mod neg abs eq ne lt le gt ge bool str",
    Rule: "len iter str eq ne pow add mul rmul", Mix: "len add mul rmul",
    RowSet: "str contains and or eq ne lt le gt ge", Claim: "str and or invert contains",
    Rival: "contains len", Site: "contains len iter getitem setitem", Ledger: "enter exit",
}


def names_of(function):
    return [name for name in inspect.signature(function).parameters if name != "self"]


class TestPlaces(unittest.TestCase):
    def test_each_name_is_defined_in_its_file(self):
        for file, things in FILES.items():
            module = importlib.import_module(f"pairahead.{file}")
            for name, told in things.items():
                thing = getattr(module, name)
                self.assertEqual(thing.__module__, module.__name__)
                self.assertEqual(inspect.isclass(thing), not isinstance(told, str))
                self.assertIs(thing, vars(module)[name])

    def test_names_of_arguments(self):
        for file, things in FILES.items():
            module = importlib.import_module(f"pairahead.{file}")
            for name, told in things.items():
                if isinstance(told, str):
                    self.assertEqual(names_of(getattr(module, name)), told.split(), name)
                elif told is not None:
                    self.assertEqual(names_of(getattr(module, name).__init__), told[0].split(), name)
                    for method, arguments in told[1].items():
                        self.assertIn(method, vars(getattr(module, name)))
                        self.assertEqual(names_of(getattr(getattr(module, name), method)), arguments.split(), method)

    def test_operators_are_defined_in_the_class_itself(self):
        for kind, words in OPERATORS.items():
            for word in words.split():
                self.assertIn(f"__{word}__", vars(kind), kind)


class TestByName(unittest.TestCase):
    def test_ratios_and_rules(self):
        self.assertEqual(Ratio(top=3, bottom=6).over(other=Ratio(top=1)), Ratio(1, 2))
        rule = Rule(rows=[(0, False, 0, True)], starts=[0])
        self.assertEqual(rule, Rule.read(text="0 stay 0 go"))
        self.assertEqual(rule.step(state=0, behind=True), (0, True))
        self.assertEqual(Mix(parts=[(2, rule)]).parts, ((2, rule),))
        self.assertEqual(marked(rows=[(0, "front")]), rule)
        self.assertEqual(parting(first=front(), second=late()), (0, 0, (1,)))

    def test_orders_row_sets_and_claims(self):
        self.assertEqual((ring(rule=late()), orders(rule=late())), (None, True))
        self.assertEqual(RowSet(rows=[(0, None)]), RowSet.read(text="0 -"))
        self.assertEqual(str(RowSet.runs(least=2, most=3)), "1 -; 2 0; - 0")
        claim = Claim(rows=[(0, 0, "last")])
        self.assertEqual(str(claim), str(Claim.read(text="0 0 last")))
        self.assertEqual((claim.verdict(calls=[0]), claim.broken(rule=front())), ("last", None))

    def test_duels_balances_and_surpluses(self):
        duel = Duel(side=front(), within=RowSet.runs(least=1, most=2))
        self.assertEqual(duel.excess(node=((0, True), None)), 1)
        self.assertEqual(Duel(side=front()).factor, 2)
        self.assertEqual(Balance(value=Ratio(2), weights=(1, 0), loops=[]).weights, (1, 0))
        self.assertEqual(balance(rules=[front(), front()]).value, 2)
        self.assertEqual(surplus(first=front(), second=front()), 0)
        self.assertIs(never_dearer(first=front(), second=still()), False)

    def test_rivals_and_sites(self):
        rival = Rival(names=["a", "b"])
        rival.call(name="b", to=0)
        rival.exchange(at=0)
        rival.put(name="c", at=1)
        rival.drop(name="a")
        self.assertEqual((rival.order, rival.cost), (["c", "b"], 2))
        site = Site(rule=front() ** 2, names=["a", "b"], marks=(0, 1))
        self.assertEqual(site.call(name="b"), "b")
        site.put(name="c", mark=1, target=5)
        self.assertEqual((site.ahead(name="c"), site.pair(name="c", other="a")[0], site["c"]), (2, "a", 5))
        self.assertEqual(site.repeat(names=["c", "b"], times=1), 3)
        site.drop(name="a")
        self.assertEqual((site.order, len(site)), (["c", "b"], 2))

    def test_deeds_and_best_rivals(self):
        site = Site(front(), ["a", "b"])
        self.assertEqual(perform(site=site, deeds=[("call", "b")]), ["b"])
        self.assertEqual(audited(site=site, deeds=[("call", "z")])[0], None)
        self.assertEqual(best_rival(names=["a", "b"], calls=["b", "a"])[0], 1)


class TestAttributes(unittest.TestCase):
    def test_they_are_set_when_the_object_is_created(self):
        rule, duel = front() ** 2, Duel(late())
        things = [
            (Ratio(1, 2), "top bottom"), (rule, "rows starts marks"), (1 * rule, "parts"), (RowSet.runs(1, 2), "rows"),
            (Claim.read("0 0 last"), "rows"), (duel, "factor marks lead loop most size"),
            (balance([front(), late()]), "value weights loops"), (Rival([]), "cost"),
            (Site(rule, []), "cost calls pairs floor"), (Ledger(), "cost calls closed"),
            (Site(rule, []).copy(), "cost calls pairs floor"), (Site(rule, []).ledger(), "cost calls closed"),
        ]
        for thing, names in things:
            for name in names.split():
                self.assertIn(name, vars(thing))

    def test_the_exchanged_rule_and_the_orders(self):
        site = Site(front(), ["a"])
        rule = late()
        site.rule = rule
        self.assertIs(site.rule, rule)
        self.assertEqual((site.order, Rival(("a",)).order), (["a"], ["a"]))


if __name__ == "__main__":
    unittest.main()

"""What the points 16, 39, 40, 44, 49 and 53 say over lists of any length, on drawn sites against drawn rivals."""

import random
import unittest
from fractions import Fraction
from itertools import product

from models import Model, falling, ordering_rules
from pairahead.bests import best_rival
from pairahead.claims import Claim
from pairahead.duels import Duel
from pairahead.errors import Dearer, NoFactor
from pairahead.orders import orders
from pairahead.rivals import Rival
from pairahead.rowsets import RowSet
from pairahead.rules import Mix, Rule, front, late, marked, still
from pairahead.sites import Site
from pairahead.surplus import surplus
from pairs import is_allowed, made_up_claims, made_up_rows, state_read
from walks import as_mix, fraction, graph, has_factor, sound_rules

NAMES = list("abcdef")


def sound(seed, many):
    """Rules that order and have a factor."""
    rules = [front(), late(), front() ** 2, front() ** 3, late() ** 2, late() ** 4, marked([(1, "front"), (0, "front")])]
    rules += [rule for rule in ordering_rules(seed, 0) if has_factor(graph(rule))]
    rules += [rule for rule in sound_rules(seed, 12 * many, 3) if orders(rule) and len(rule.least()) > 1][:many]
    return rules


class Play:
    """A site against a rival, with the history of each pair and the sequence that a model of them keeps."""

    def __init__(self, chance, rule, names):
        self.chance = chance
        marks = [chance.randrange(rule.marks) for _ in names]
        self.site = Site(rule, names, marks)
        self.model = Model(rule, names, marks)
        order = list(names)
        chance.shuffle(order)
        self.rival = Rival(order)
        self.paid = 0

    def spent(self):
        """The cost of the rival since the site was made or its rule was exchanged."""
        return self.rival.cost - self.paid

    def call(self, name):
        self.site.call(name)
        self.model.call(name)
        place = self.rival.order.index(name)
        self.rival.call(name, self.chance.choice((None, 0, 0, self.chance.randint(0, place))))

    def exchange(self):
        if len(self.rival) > 1:
            self.rival.exchange(self.chance.randrange(len(self.rival) - 1))

    def put(self, name):
        mark = self.chance.randrange(self.site.rule.marks)
        self.site.put(name, mark)
        self.model.put(name, mark)
        self.rival.put(name, self.chance.randint(0, len(self.rival)))

    def drop(self, name):
        for one in (self.site, self.model, self.rival):
            one.drop(name)

    def change_rule(self, rule):
        self.site.rule = rule
        self.model.exchange(rule)
        self.paid = self.rival.cost

    def bad_call(self):
        """A case that stands far behind for the site and near the front for the rival."""
        return min(self.site, key=lambda name: (self.rival.order.index(name) - 2 * self.site.ahead(name), name))

    def some_deed(self):
        absent = [name for name in NAMES if name not in self.site]
        kind = self.chance.choice(("call", "call", "bad", "bad", "bad", "exchange", "put", "drop"))
        if kind == "put" and absent and len(self.site) < 5:
            self.put(self.chance.choice(absent))
        elif kind == "drop" and len(self.site) > 2:
            self.drop(self.chance.choice(self.site.order))
        elif kind == "exchange":
            self.exchange()
        elif len(self.site) > 0:
            self.call(self.bad_call() if kind == "bad" else self.chance.choice(self.site.order))

    def nodes(self, within=None):
        """The nodes of all present pairs."""
        found = []
        order = self.site.order
        for at, name in enumerate(order):
            for other in order[:at]:
                ahead, state = self.site.pair(name, other)
                first = min((name, other), key=self.rival.order.index)
                entry = (state, ahead != first)
                found.append((entry,) if within is None else (entry, self.last(name, other, first, within)))
        return found

    def last(self, name, other, first, within):
        """The last entry of the node of a pair within a row set."""
        calls = self.history(name, other)
        if not calls:
            return None
        return state_read(within.rows, calls), calls[-1] == first

    def history(self, name, other):
        """The names that were called of a pair since the first of the two came."""
        one, two = sorted((self.model.find(name), self.model.find(other)))
        return [(one, two)[call][1] for call in self.model.history(one, two)]


class TestFactors(unittest.TestCase):
    def check(self, play, duel, within=None):
        """Point 39, at this moment."""
        site = play.site
        bound = duel.factor * play.spent() + duel.most * site.pairs
        self.assertLessEqual(site.cost, bound)
        excesses = sum([fraction(duel.excess(here)) for here in play.nodes(within)], Fraction(0))
        self.assertLessEqual(site.cost + excesses, fraction(bound))

    def test_drawn_sites_against_drawn_rivals(self):
        chance = random.Random(1)
        for rule in sound(1, 12):
            duel = Duel(rule)
            for _ in range(3):
                play = Play(chance, rule, NAMES[:chance.randint(0, 4)])
                for _ in range(40):
                    play.some_deed()
                    self.check(play, duel)
                    self.assertEqual(play.site.order, play.model.order)

    def test_behind_an_exchanged_rule(self):
        chance = random.Random(2)
        rules = sound(2, 6)
        for _ in range(20):
            play = Play(chance, chance.choice(rules), NAMES[:chance.randint(2, 4)])
            for _ in range(3):
                for _ in range(10):
                    play.some_deed()
                rule = chance.choice(rules)
                play.change_rule(rule)
                duel = Duel(rule)
                for _ in range(15):
                    self.check(play, duel)
                    play.some_deed()

    def test_the_evidence_played_on_a_site(self):
        for rule in sound(3, 12):
            duel = Duel(rule)
            site, rival = Site(rule, ["a", "b"], duel.marks), Rival(["a", "b"])
            self.play(site, rival, duel.lead)
            before = (site.cost, rival.cost, site.pair("a", "b")[1], site.order == rival.order)
            self.play(site, rival, duel.loop * 5)
            self.assertEqual((site.pair("a", "b")[1], site.order == rival.order), before[2:])
            self.assertEqual(site.cost - before[0], duel.factor * (rival.cost - before[1]))
            self.assertGreater(rival.cost, before[1])

    def test_the_evidence_of_no_factor_played_on_a_site(self):
        for rule in [still()] + falling():
            with self.assertRaises(NoFactor) as caught:
                Duel(rule)
            error = caught.exception
            site, rival = Site(rule, ["a", "b"], error.marks), Rival(["a", "b"])
            self.play(site, rival, error.lead)
            before = (site.cost, rival.cost)
            self.play(site, rival, error.loop * 5)
            self.assertGreater(site.cost, before[0])
            self.assertEqual(rival.cost, before[1])

    def play(self, site, rival, letters):
        for letter in letters:
            name, other = rival.order
            if letter == "x":
                rival.exchange(0)
            elif letter == "f":
                site.call(name)
                rival.call(name)
            else:
                site.call(other)
                rival.call(other, 0 if letter == "m" else None)

    def test_mixes_on_lists_without_newcomers(self):
        chance = random.Random(4)
        mixes = [1 * (front() ** 2), 2 * front() + late(), late() + (front() ** 2), Mix([(3, late() ** 2), (1, late())]),
                 4 * late() + front() ** 2]
        for mix in mixes:
            duel = Duel(mix)
            for names in (NAMES[:2], NAMES[:3]):
                copies = all_sites(mix, names)
                rival = Rival(names[::-1])
                for _ in range(25):
                    name = chance.choice(names + [min(names, key=lambda one: rival.order.index(one))])
                    for _, site in copies:
                        site.call(name)
                    rival.call(name, chance.choice((None, 0)))
                    if chance.random() < 0.2:
                        rival.exchange(chance.randrange(len(names) - 1))
                    bound = fraction(duel.factor) * rival.cost + fraction(duel.most) * copies[0][1].pairs
                    self.assertLessEqual(mean_cost(copies), bound)


def all_sites(side, names):
    """A site for each part of a mix and all marks of the names, each with its chance."""
    whole = sum(weight for weight, _ in as_mix(side).parts)
    return [
        (Fraction(weight, whole * rule.marks ** len(names)), Site(rule, names, marks))
        for weight, rule in as_mix(side).parts
        for marks in product(range(rule.marks), repeat=len(names))
    ]


def mean_cost(copies):
    return sum(share * site.cost for share, site in copies)


class TestFloors(unittest.TestCase):
    def test_no_rival_is_below_the_floor(self):
        chance = random.Random(5)
        for rule in ordering_rules(11, 10):
            play = Play(chance, rule, NAMES[:chance.randint(0, 4)])
            for at in range(60):
                play.some_deed()
                self.assertLessEqual(play.site.floor, play.spent())
                self.assertEqual(play.site.floor, play.model.floor)
                if at == 30:
                    play.change_rule(rule)

    def test_no_best_rival_is_below_the_floor_whatever_list_it_has(self):
        chance = random.Random(6)
        for _ in range(25):
            names = NAMES[:chance.randint(2, 4)]
            site = Site(still(), names)
            calls = [chance.choice(names) for _ in range(12)]
            for name in calls:
                site.call(name)
            other = list(names)
            chance.shuffle(other)
            self.assertLessEqual(site.floor, best_rival(other, calls)[0])

    def test_the_floor_is_reached_by_a_rival_of_two_cases(self):
        for calls in product("ab", repeat=8):
            site = Site(front(), ["a", "b"])
            for name in calls:
                site.call(name)
            self.assertEqual(site.floor, min(best_rival(order, calls)[0] for order in ("ab", "ba")))

    def test_the_cost_is_at_most_the_factor_times_the_floor_and_most_for_each_pair(self):
        chance = random.Random(7)
        for rule in sound(7, 12):
            duel = Duel(rule)
            play = Play(chance, rule, NAMES[:chance.randint(0, 4)])
            for _ in range(60):
                play.some_deed()
                self.assertLessEqual(play.site.cost, duel.factor * play.site.floor + duel.most * play.site.pairs)


class TestSurpluses(unittest.TestCase):
    def test_on_lists_without_newcomers(self):
        chance = random.Random(8)
        sides = [front(), late(), front() ** 2, late() ** 2, still(), 1 * front() + late(), 3 * late() + still()]
        sides += [rule for rule in ordering_rules(12, 12) if rule.marks < 3]
        many = 0
        for first, second in product(sides, repeat=2):
            try:
                bound = fraction(surplus(first, second))
            except Dearer:
                continue
            many += 1
            for names in (NAMES[:2], NAMES[:3]):
                ones, twos = all_sites(first, names), all_sites(second, names)
                for _ in range(8):
                    name = chance.choice(names)
                    for _, site in ones + twos:
                        site.call(name)
                    self.assertLessEqual(mean_cost(ones), mean_cost(twos) + bound * ones[0][1].pairs)
        self.assertGreater(many, 60)


class TestRowSets(unittest.TestCase):
    def test_within_row_sets_on_lists(self):
        chance = random.Random(9)
        sets = [RowSet.runs(1, 2), RowSet.runs(2, 3), RowSet.runs(2, 2), RowSet([(0, 0)])]
        sets += [RowSet(made_up_rows(chance, 3, 0.15)) for _ in range(8)]
        steps = 0
        for rule in sound(9, 5) + [still(), falling()[1]]:
            for within in sets:
                try:
                    duel = Duel(rule, within)
                except NoFactor:
                    continue
                steps += self.play(chance, rule, within, duel)
        self.assertGreater(steps, 1000)

    def play(self, chance, rule, within, duel):
        """Play as long as the history of each pair can go on in the set, and return how many calls there were."""
        play = Play(chance, rule, NAMES[:chance.randint(2, 3)])
        for count in range(25):
            allowed = [name for name in play.site if all(
                play.history(name, other) + [name] in within for other in play.site if other != name
            )]
            if not allowed:
                return count
            kind = chance.choice(("call", "call", "call", "exchange", "put"))
            if kind == "put" and len(play.site) < 4:
                new = NAMES[len(play.site)]
                play.put(new)
                if not all(play.history(new, other) in within for other in play.site if other != new):
                    return count
            elif kind == "exchange":
                play.exchange()
            else:
                play.call(max(allowed, key=lambda name: (play.site.ahead(name) * chance.randint(0, 2), name)))
            TestFactors.check(self, play, duel, within)
        return 25


class TestOrders(unittest.TestCase):
    def test_the_pairs_of_a_list_form_one_order(self):
        chance = random.Random(10)
        for rule in ordering_rules(13, 15):
            play = Play(chance, rule, NAMES[:4])
            for _ in range(40):
                play.some_deed()
                order = play.site.order
                for at, name in enumerate(order):
                    for other in order[:at]:
                        self.assertEqual(play.site.pair(name, other)[0], other)
                        self.assertEqual(play.model.pair(name, other)[0], other)

    def test_powers_order_exactly_if_the_rule_does(self):
        for rule in ordering_rules(14, 10) + [Rule.read("0 stay 1 stay; 0 stay 0 go")]:
            if rule.marks == 1:
                self.assertEqual(orders(rule ** 2), orders(rule))


class TestClaims(unittest.TestCase):
    def test_a_claim_that_a_rule_does_not_break_holds_in_every_site(self):
        chance = random.Random(11)
        claims = made_up_claims(5, 150, 3, ("free", "free", "last", "other"))
        claims += [Claim.read("0 0 last"), Claim.read("1 0 free; 1 0 last"), Claim.read("0 0 other")]
        many = 0
        for rule in ordering_rules(15, 10):
            kept = [claim for claim in claims if rule in claim and {row[2] for row in claim.rows} != {"free"}]
            for claim in kept[:6]:
                many += 1
                play = Play(chance, rule, NAMES[:3])
                for _ in range(20):
                    play.some_deed()
                    self.check(play, claim)
        self.assertGreater(many, 40)

    def check(self, play, claim):
        order = play.site.order
        for at, name in enumerate(order):
            for other in order[:at]:
                calls = play.history(name, other)
                if calls:
                    word = claim.verdict([0 if call == other else 1 for call in calls])
                    self.assertIn(word, ("free", "last" if calls[-1] == other else "other"))

    def test_a_claim_that_a_rule_breaks_fails_in_a_site(self):
        many = 0
        for rule in ordering_rules(16, 10):
            for claim in made_up_claims(6, 12, 3):
                told = claim.broken(rule)
                if told is not None:
                    many += 1
                    first, second, calls = told
                    site = Site(rule, ["a", "b"], [first, second])
                    for call in calls:
                        site.call("ab"[call])
                    last = site.order[0] == "ab"[calls[-1]]
                    self.assertNotIn(claim.verdict(calls), ("free", "last" if last else "other"))
                    self.assertFalse(is_allowed(claim, rule, (first, second), calls))
        self.assertGreater(many, 100)


if __name__ == "__main__":
    unittest.main()

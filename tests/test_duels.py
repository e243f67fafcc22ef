"""Points 36 to 38 and the interface of pairahead/duels.py: nodes, factors and their evidence."""

import random
import unittest
from fractions import Fraction

from pairahead.duels import Duel
from pairahead.errors import NoFactor, PairError, TooGreat
from pairahead.orders import orders
from pairahead.ratios import Ratio
from pairahead.rules import Mix, Rule, front, late, marked, still
from pairs import made_up_rule
from walks import (
    best_closed_walk, fraction, graph, has_factor, highest, loop_costs, node, sound_mixes, sound_rules, sound_sides, walk,
)

UNORDERED = Rule.read("0 stay 1 stay; 0 stay 0 go")


def counting(count, marks=1):
    """A rule whose states count the calls; a call of the case behind counts by going ahead in the last state only."""
    rows = [((state + 1) % count, False, (state + 1) % count, state == count - 1) for state in range(count)]
    return Rule(rows, [0] * (marks * marks))


def unsound_sides(seed, many):
    """So many made-up rules, and mixes with one of them as a part, whose duels have no factor."""
    chance = random.Random(seed)
    found = []
    while len(found) < 2 * many:
        rule = made_up_rule(chance, 4, chance.choice((1, 2, 3)))
        mix = Mix([(chance.randint(1, 9), part) for part in (rule, late())])
        if not has_factor(graph(rule)) and not has_factor(graph(mix)):
            found.extend([rule, mix])
    return found


class TestExamples(unittest.TestCase):
    def test_examples_of_the_interface(self):
        self.assertEqual(str(Duel(front()).factor), "2")
        self.assertEqual(str(Duel(front()).excess(((0, True),))), "1")
        with self.assertRaises(NoFactor):
            Duel(still())

    def test_by_name(self):
        duel = Duel(side=late(), within=None)
        self.assertEqual(duel.factor, 2)
        self.assertEqual(duel.excess(node=((0, False),)), Duel(late()).excess(((0, False),)))

    def test_attributes_and_their_kinds(self):
        for side in (late(), front() ** 2, 2 * front() + late()):
            duel = Duel(side)
            for name in ("factor", "most"):
                self.assertIsInstance(getattr(duel, name), Ratio)
            self.assertIsInstance(duel.excess(next(iter(graph(side)))), Ratio)
            self.assertIs(type(duel.size), int)
            self.assertIs(type(duel.marks), tuple)
            self.assertIs(type(duel.lead), str)
            self.assertIs(type(duel.loop), str)
            for name in ("factor", "marks", "lead", "loop", "most", "size"):
                self.assertIn(name, vars(duel))

    def test_factors_worked_out_by_hand(self):
        # Every second call: in the worst case both cases are called once before, and then alternately: `xffbff`.
        self.assertEqual(str(Duel(front() ** 2).factor), "5/2")
        # The marks are drawn: each of the two counts begins with 0 or 1.
        self.assertEqual(str(Duel(1 * (front() ** 2)).factor), "7/4")
        self.assertEqual(str(Duel(1 * front()).factor), "2")
        self.assertEqual(str(Duel(late()).factor), "2")


class TestSizes(unittest.TestCase):
    def test_against_a_count_of_the_nodes(self):
        for side in sound_sides(1, 60):
            self.assertEqual(Duel(side).size, len(graph(side)))

    def test_plain_rules(self):
        self.assertEqual(Duel(front()).size, 2)
        self.assertEqual(Duel(late()).size, 6)
        self.assertEqual(Duel(1 * late()).size, 6)

    def test_states_that_are_not_reached_do_not_count(self):
        self.assertEqual(Duel(Rule.read("0 stay 0 go; 0 fall 1 stay")).size, 2)
        self.assertEqual(Duel(Rule.read("0 stay 0 go; 1 stay 1 go | 1")).size, 2)

    def test_alike_states_count_as_they_are_given(self):
        self.assertEqual(Duel(Rule.read("1 stay 1 go; 0 stay 0 go")).size, 4)

    def test_the_starts_of_all_marks_count(self):
        rows = [(state, False, state, True) for state in range(5)]
        self.assertEqual(Duel(Rule(rows, [0, 1, 2, 4])).size, 8)
        self.assertEqual(Duel(Rule(rows, [0, 1, 1, 0])).size, 4)
        # A mix begins with all marks at once: all entries move alike.
        self.assertEqual(Duel(1 * Rule(rows, [0, 1, 2, 4])).size, 2)

    def test_a_rule_in_many_states(self):
        self.assertEqual(Duel(counting(48)).size, 96)
        self.assertEqual(Duel(1 * counting(48, 4)).size, 96)

    def test_too_many_nodes(self):
        chance = random.Random(8)
        below, above = [], []
        while min(len(below), len(above)) < 6:
            mix = Mix([(1, counting(chance.randint(3, 20))), (1, counting(chance.randint(3, 20))),
                       (2, made_up_rule(chance, 4, 1))])
            steps = graph(mix, None, 1400)
            size = 0 if steps is None else len(steps)
            if 800 < size <= 1000:
                below.append((mix, size))
            elif 1000 < size <= 1400:
                above.append(mix)
        for mix, size in below:
            try:
                self.assertEqual(Duel(mix).size, size)
            except NoFactor:
                pass
        for mix in above:
            with self.assertRaises(TooGreat):
                Duel(mix)

    def test_too_great_goes_ahead_of_no_factor(self):
        mix = Mix([(1, counting(47)), (1, counting(46)), (1, still())])
        self.assertIsNone(graph(mix, None, 1000))
        with self.assertRaises(TooGreat):
            Duel(mix)
        with self.assertRaises(PairError):
            Duel(side=mix)


class TestEvidence(unittest.TestCase):
    def check(self, side, duel):
        if isinstance(side, Rule):
            self.assertEqual(len(duel.marks), 2)
            for mark in duel.marks:
                self.assertIn(mark, range(side.marks))
        else:
            self.assertEqual(duel.marks, ())
        paid, rival = loop_costs(self, side, duel.marks, duel.lead, duel.loop)
        self.assertGreater(rival, 0)
        self.assertEqual(paid, fraction(duel.factor) * rival)

    def test_of_rules_and_mixes(self):
        for side in sound_sides(2, 100):
            self.check(side, Duel(side))

    def test_of_named_rules_and_powers(self):
        for rule in (front(), late(), front() ** 2, front() ** 3, front() ** 4, late() ** 2, late() ** 4):
            self.check(rule, Duel(rule))
        for rule in (front(), late(), front() ** 2, front() ** 3, late() ** 2):
            self.check(1 * rule, Duel(1 * rule))

    def test_marks_whose_beginnings_differ(self):
        # Only cases of these marks have a state in which much can be lost.
        rows = [(0, False, 0, True), (2, False, 2, False), (0, False, 1, True)]
        for at in range(9):
            starts = [0] * 9
            starts[at] = 1
            duel = Duel(Rule(rows, starts))
            self.check(Rule(rows, starts), duel)
            if duel.factor > 2:
                self.assertEqual(duel.marks, divmod(at, 3))
        self.assertGreater(Duel(Rule(rows, [0, 0, 1, 0])).factor, 2)

    def test_great_weights(self):
        chance = random.Random(4)
        for _ in range(12):
            mix = Mix([(chance.randint(10 ** 38, 10 ** 40 - 1), rule)
                       for rule in (front(), late(), front() ** 2)[:chance.randint(1, 3)]])
            self.check(mix, Duel(mix))

    def test_ten_parts(self):
        mix = Mix([(10 ** 30 + at, [front(), late(), front() ** 2][at % 3]) for at in range(10)])
        self.check(mix, Duel(mix))

    def test_rules_that_do_not_order(self):
        self.assertFalse(orders(UNORDERED))
        self.check(UNORDERED, Duel(UNORDERED))
        unordered = [rule for rule in sound_rules(5, 60) if not orders(rule)]
        self.assertGreater(len(unordered), 10)
        for rule in unordered:
            self.check(rule, Duel(rule))
            self.assertEqual(Duel(rule).size, len(graph(rule)))

    def test_the_same_when_asked_twice(self):
        for side in sound_sides(6, 15) + unsound_sides(6, 15):
            told = []
            for _ in range(2):
                try:
                    duel = Duel(side)
                    told.append((str(duel.factor), duel.marks, duel.lead, duel.loop, str(duel.most), duel.size))
                except NoFactor as error:
                    told.append((error.marks, error.lead, error.loop))
            self.assertEqual(told[0], told[1])


class TestGreatest(unittest.TestCase):
    def test_no_walk_that_returns_has_a_greater_ratio(self):
        many = 0
        for side in sound_sides(7, 60):
            steps = graph(side)
            if len(steps) <= 24:
                many += 1
                self.assertEqual(best_closed_walk(steps, fraction(Duel(side).factor)), 0)
        self.assertGreater(many, 60)

    def test_no_walk_gains_for_ever_but_with_a_lesser_factor_one_does(self):
        for side in sound_sides(3, 40):
            steps = graph(side)
            factor = fraction(Duel(side).factor)
            self.assertIsNotNone(highest(steps, factor))
            if len(steps) < 50:
                self.assertIsNone(highest(steps, factor - Fraction(1, 10 ** 6)))

    def test_a_rule_has_a_factor_of_at_least_two(self):
        for rule in sound_rules(9, 150, 5, (1, 2, 3, 4)):
            self.assertGreaterEqual(Duel(rule).factor, 2)


class TestNoFactor(unittest.TestCase):
    def check(self, side, within=None):
        with self.assertRaises(NoFactor) as caught:
            Duel(side, within)
        error = caught.exception
        if isinstance(side, Rule):
            self.assertEqual(len(error.marks), 2)
        else:
            self.assertEqual(error.marks, ())
        self.assertIs(type(error.marks), tuple)
        paid, rival = loop_costs(self, side, error.marks, error.lead, error.loop, within)
        self.assertEqual(rival, 0)
        self.assertGreater(paid, 0)

    def test_named_rules(self):
        self.check(still())
        self.check(1 * still())
        self.check(5 * front() + still())
        self.check(Rule.read("0 fall 0 go"))

    def test_made_up_sides(self):
        for side in unsound_sides(11, 60):
            self.check(side)

    def test_one_start_without_a_factor(self):
        rows = [(0, False, 0, True), (1, False, 1, False)]
        for at in range(4):
            starts = [0] * 4
            starts[at] = 1
            self.check(Rule(rows, starts))
            self.check(1 * Rule(rows, starts))
            with self.assertRaises(NoFactor) as caught:
                Duel(Rule(rows, starts))
            self.assertEqual(caught.exception.marks, divmod(at, 2))

    def test_a_small_weight_without_a_factor(self):
        self.check(Mix([(10 ** 39, front()), (1, still())]))

    def test_a_loop_that_is_entered_late(self):
        rows = [(1, False, 1, True), (2, False, 2, True), (2, False, 2, False)]
        self.check(Rule(rows))
        stands, _ = walk(Rule(rows), (0, 0), "ffx")
        self.assertEqual(node(stands[-1]), ((2, True),))

    def test_marked_rules(self):
        self.check(marked([(0, "back")]))
        self.check(marked([(1, "front"), (1, "keep")]))
        self.check(1 * marked([(1, "front"), (1, "keep")]))


class TestMixes(unittest.TestCase):
    def same(self, one, two):
        self.assertEqual(str(one.factor), str(two.factor))
        self.assertEqual(str(one.most), str(two.most))

    def mixes(self, seed):
        return [(mix, Duel(mix)) for mix in sound_mixes(seed, 40)]

    def test_all_weights_times_one_number(self):
        for mix, duel in self.mixes(21):
            self.same(duel, Duel(3 * mix))
            self.same(duel, Duel(mix * 10 ** 33))

    def test_the_parts_in_another_order(self):
        for mix, duel in self.mixes(22):
            self.same(duel, Duel(Mix(mix.parts[::-1])))
            self.same(duel, Duel(Mix(mix.parts[1:] + mix.parts[:1])))

    def test_a_rule_twice_as_two_parts(self):
        for mix, duel in self.mixes(23):
            weight, rule = mix.parts[0]
            tripled = 3 * mix
            self.same(duel, Duel(Mix(((weight, rule), (2 * weight, rule)) + tripled.parts[1:])))
        self.same(Duel(1 * late()), Duel(late() + late()))

    def test_a_rule_of_one_mark_and_its_mix(self):
        for rule in [front(), late()] + sound_rules(24, 40, 4, (1,)):
            self.same(Duel(rule), Duel(1 * rule))

    def test_a_rule_of_several_marks_and_its_mix_may_differ(self):
        self.assertEqual(str(Duel(front() ** 2).factor), "5/2")
        self.assertEqual(str(Duel(1 * (front() ** 2)).factor), "7/4")

    def test_the_mean_of_the_weights_counts(self):
        found = {str(Duel(Mix([(weight, front()), (1, front() ** 2)])).factor) for weight in (1, 2, 10 ** 30)}
        self.assertEqual(len(found), 3)

    def test_thirty_digits(self):
        mix = Mix([(10 ** 30 - at * 7, rule) for at, rule in enumerate([front(), late(), front() ** 2, late() ** 2])])
        duel = Duel(mix)
        self.assertEqual(highest(graph(mix), fraction(duel.factor)) is None, False)


class TestArguments(unittest.TestCase):
    def test_they_stay_as_they_were(self):
        rule, mix = late() ** 2, 3 * front() + (front() ** 2)
        before = (str(rule), [(weight, str(part)) for weight, part in mix.parts])
        Duel(rule)
        Duel(mix)
        self.assertEqual((str(rule), [(weight, str(part)) for weight, part in mix.parts]), before)


if __name__ == "__main__":
    unittest.main()

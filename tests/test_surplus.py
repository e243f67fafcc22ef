"""Points 43 and 44 and the interface of pairahead/surplus.py."""

import random
import unittest
from fractions import Fraction

from pairahead.errors import Dearer
from pairahead.ratios import Ratio
from pairahead.rules import Mix, Rule, front, late, marked, still
from pairahead.surplus import never_dearer, surplus
from pairs import made_up_rule, respelled, sequences
from walks import as_mix, begin, called, entries_of, fraction, highest, sound_mixes, sound_rules

SLOW = Rule.read("0 stay 1 stay; 0 stay 0 go")


def stand_after(side, calls):
    """The states and the cases ahead of a side after some calls, and what they cost."""
    entries = entries_of(as_mix(side))
    states, aheads, _, _ = begin(as_mix(side), ())
    total = Fraction(0)
    for case in calls:
        states, aheads, cost = called(entries, (states, aheads), case)
        total += cost
    return (states, aheads), total


def both_graph(first, second, most=None):
    """The graph of the calls of both sides, whose first cost is that of the first side less that of the second one."""
    sides = [as_mix(first), as_mix(second)]
    entries = [entries_of(side) for side in sides]
    start = tuple([begin(side, ())[:2] for side in sides])
    steps = {start: []}
    waiting = [start]
    while waiting:
        here = waiting.pop(0)
        for case in (0, 1):
            one, two = [called(part, stand, case) for part, stand in zip(entries, here)]
            after = (one[:2], two[:2])
            steps[here].append((str(case), after, one[2] - two[2], 0))
            if after not in steps:
                steps[after] = []
                waiting.append(after)
        if most is not None and len(steps) > most:
            return None
    return steps


def drawn(seed, many, most=120):
    """Pairs of sides whose graph is not too great."""
    chance = random.Random(seed)
    pool = [front(), still(), late(), SLOW, front() ** 2, 1 * front(), front() + late(), 2 * (front() ** 2) + still()]
    pool += sound_rules(seed, 25, 3, (1, 2)) + sound_mixes(seed, 15, 60)
    pool += [made_up_rule(chance, 3, chance.choice((1, 2, 3))) for _ in range(25)]
    found = []
    while len(found) < many:
        first, second = chance.choice(pool), chance.choice(pool)
        if both_graph(first, second, most) is not None:
            found.append((first, second))
    return found


class TestSurplus(unittest.TestCase):
    def test_examples_of_the_interface(self):
        self.assertEqual(str(surplus(front(), front())), "0")
        self.assertIs(never_dearer(front(), still()), False)

    def test_by_name_and_kinds(self):
        self.assertIsInstance(surplus(first=late(), second=late()), Ratio)
        self.assertIs(never_dearer(first=still(), second=still()), True)

    def test_over_itself(self):
        for side in sound_rules(1, 30, 4, (1, 2, 3)) + sound_mixes(2, 20, 60) + [still(), SLOW]:
            self.assertEqual(surplus(side, side), 0)
            self.assertIs(never_dearer(side, side), True)

    def test_over_an_alike_rule(self):
        chance = random.Random(3)
        for rule in sound_rules(3, 40, 4, (1, 2)) + [still(), late(), front() ** 2]:
            other = respelled(chance, rule)
            self.assertEqual(surplus(rule, other), 0)
            self.assertEqual(surplus(other, rule), 0)

    def test_weights_and_a_mix_of_a_rule_with_itself_change_nothing(self):
        for first, second in drawn(4, 25, 60):
            told = self.told(first, second)
            for one in (first, 7 * first, 10 ** 33 * as_mix(first), 2 * first + first):
                for two in (second, second * 3, 1 * second + 4 * as_mix(second)):
                    self.assertEqual(self.told(one, two), told)

    def told(self, first, second):
        try:
            return str(surplus(first, second))
        except Dearer:
            return "none"

    def test_worked_out_by_hand(self):
        self.assertEqual(self.told(still(), front()), "none")
        once = Rule([(0, False, 1, False), (1, False, 1, True)])
        # It misses the first call of the case behind, and is front from then on: `11` costs it 1 more, and `10` less.
        self.assertEqual(self.told(once, front()), "1")
        self.assertEqual(self.told(front(), once), "1")
        self.assertEqual(self.told(1 * once + front(), front()), "1/2")
        self.assertEqual(self.told(Mix([(1, once), (3, front())]), front()), "1/4")

    def test_against_all_walks(self):
        counts = {"surplus": 0, "dearer": 0}
        for first, second in drawn(5, 250):
            steps = both_graph(first, second)
            values = highest(steps, 0)
            if values is None:
                counts["dearer"] += 1
                self.assertIs(never_dearer(first, second), False)
                self.check_dearer(first, second)
            else:
                counts["surplus"] += 1
                self.assertIs(never_dearer(first, second), True)
                self.assertEqual(fraction(surplus(first, second)), next(iter(values.values())))
        self.assertGreater(min(counts.values()), 50)

    def test_against_all_short_sequences(self):
        for first, second in drawn(6, 30, 40):
            if never_dearer(first, second):
                best = max(
                    stand_after(first, calls)[1] - stand_after(second, calls)[1] for calls in sequences(7)
                )
                self.assertLessEqual(best, fraction(surplus(first, second)))
                if len(both_graph(first, second)) <= 7:
                    self.assertEqual(best, fraction(surplus(first, second)))

    def test_great_weights_and_ten_parts(self):
        once = Rule([(0, False, 1, False), (1, False, 1, True)])
        mix = Mix([(10 ** 39 + 3, once), (10 ** 40 - 9, front())])
        self.assertEqual(fraction(surplus(mix, front())), Fraction(10 ** 39 + 3, 11 * 10 ** 39 - 6))
        ten = Mix([(10 ** 30 + at, [front(), once][at % 2]) for at in range(10)])
        odd = sum(10 ** 30 + at for at in range(1, 10, 2))
        self.assertEqual(fraction(surplus(ten, front())), Fraction(odd, 10 ** 31 + 45))

    def check_dearer(self, first, second):
        with self.assertRaises(Dearer) as caught:
            surplus(first, second)
        error = caught.exception
        for letters in (error.lead, error.loop):
            self.assertIs(type(letters), str)
            self.assertLessEqual(set(letters), set("01"))
        lead = [int(letter) for letter in error.lead]
        loop = [int(letter) for letter in error.loop]
        costs = []
        for side in (first, second):
            at, before = stand_after(side, lead)
            again, after = stand_after(side, lead + loop)
            self.assertEqual(at, again)
            costs.append(after - before)
        self.assertGreater(costs[0], costs[1])

    def test_dearer_of_named_rules(self):
        self.check_dearer(front(), still())
        self.check_dearer(still(), front())
        self.check_dearer(still(), late())
        self.check_dearer(front() ** 2, still())
        self.check_dearer(still(), front() ** 2 + late())
        self.check_dearer(marked([(0, "back")]), front())
        self.check_dearer(Mix([(10 ** 39, front()), (1, still())]), front())

    def test_a_loop_that_is_entered_late(self):
        # Only after four calls of the case behind does the first rule stop moving.
        rows = [(state, False, state + 1, True) for state in range(4)] + [(4, False, 4, False)]
        self.check_dearer(Rule(rows), front())
        self.assertEqual(self.told(front(), Rule(rows)), "none")

    def test_false_in_both_directions(self):
        self.assertEqual((never_dearer(front(), still()), never_dearer(still(), front())), (False, False))
        found = {(never_dearer(first, second), never_dearer(second, first)) for first, second in drawn(7, 120)}
        self.assertEqual(found, {(True, True), (True, False), (False, True), (False, False)})

    def test_the_same_when_asked_twice_and_arguments_stay(self):
        for first, second in drawn(8, 30):
            before = [[(weight, str(rule)) for weight, rule in as_mix(side).parts] for side in (first, second)]
            told = []
            for _ in range(2):
                try:
                    told.append(str(surplus(first, second)))
                except Dearer as error:
                    told.append((error.lead, error.loop))
            self.assertEqual(told[0], told[1])
            after = [[(weight, str(rule)) for weight, rule in as_mix(side).parts] for side in (first, second)]
            self.assertEqual(before, after)

    def test_many_combinations(self):
        first, second = front() ** 2 + late(), Mix([(3, late() ** 2)])
        values = highest(both_graph(first, second), 0)
        self.assertGreater(len(both_graph(first, second)), 200)
        self.assertIs(never_dearer(first, second), values is not None)


if __name__ == "__main__":
    unittest.main()

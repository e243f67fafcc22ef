"""Point 49: duels within row sets."""

import random
import unittest

from pairahead.duels import Duel
from pairahead.errors import NoFactor, TooGreat
from pairahead.ratios import Ratio
from pairahead.rowsets import RowSet
from pairahead.rules import Mix, Rule, front, late, marked, still
from pairs import made_up_rows, made_up_rule
from walks import begin, best_closed_walk, entries_of, fraction, graph, has_factor, highest, loop_costs, sound_sides, step

ALL = RowSet([(0, 0)])


def nested(chance):
    """A made-up row set in which sequences can go on for long, or not."""
    return RowSet(made_up_rows(chance, 4, chance.choice((0, 0.1, 0.3))))


def drawn(seed, many, most_nodes=300):
    """Sides and row sets whose duels have not too many nodes."""
    chance = random.Random(seed)
    sides = sound_sides(seed, 30) + [made_up_rule(chance, 3, chance.choice((1, 2))) for _ in range(30)] + [still()]
    found = []
    while len(found) < many:
        side, within = chance.choice(sides), nested(chance)
        if graph(side, within, most_nodes) is not None:
            found.append((side, within))
    return found


def rows_of_cycles(count):
    return RowSet([((state + 1) % count, (state + 1) % count) for state in range(count)])


class TestNodes(unittest.TestCase):
    def test_the_last_entry_by_hand(self):
        duel = Duel(front(), RowSet.runs(2, 3))
        # None before the first call; then the state of the set, and whether the case called last is at the front.
        self.assertEqual(duel.excess(((0, True), None)), 1)
        self.assertEqual(duel.excess(((0, False), None)), 0)
        self.assertEqual(duel.excess(((0, True), (0, False))), 0)
        self.assertEqual(duel.excess(((0, False), (0, True))), 0)
        mix = Duel(1 * front() + late(), ALL)
        self.assertIsInstance(mix.excess(((0, True), (0, True), None)), Ratio)
        # After `b` front has put the called case ahead, late has not.
        self.assertIsInstance(mix.excess(((0, True), (1, False), (0, False))), Ratio)

    def test_which_nodes_there_are(self):
        # A single call is all that is allowed: before it 2 nodes, after it the called case is at the front or not.
        duel = Duel(front(), RowSet([(None, None)]))
        self.assertEqual(duel.size, 4)
        for here in (((0, True), None), ((0, False), None), ((0, False), (0, True)), ((0, True), (0, False))):
            self.assertIsInstance(duel.excess(here), Ratio)
        self.assertEqual(Duel(front(), ALL).size, 4)
        self.assertEqual(Duel(still(), RowSet([(None, None)])).size, 6)

    def test_sizes_against_a_count(self):
        for side, within in drawn(1, 120):
            steps = graph(side, within)
            if has_factor(steps):
                self.assertEqual(Duel(side, within).size, len(steps))

    def test_exactly_a_thousand_nodes_are_not_too_many(self):
        rows = [((state + 1) % 31, False, (state + 1) % 31, state == 0) for state in range(31)]
        rule = Rule(rows, list(range(12)) + [0] * 4)
        self.assertEqual(len(graph(rule, rows_of_cycles(8))), 1000)
        self.assertEqual(Duel(rule, rows_of_cycles(8)).size, 1000)
        more = Rule(rows, list(range(13)) + [0] * 3)
        self.assertEqual(len(graph(more, rows_of_cycles(8))), 1002)
        with self.assertRaises(TooGreat):
            Duel(more, rows_of_cycles(8))

    def test_too_great_goes_ahead_of_no_factor(self):
        rows = [((state + 1) % 31, False, (state + 1) % 31, False) for state in range(31)]
        with self.assertRaises(NoFactor):
            Duel(Rule(rows, [0]), rows_of_cycles(8))
        with self.assertRaises(TooGreat):
            Duel(Rule(rows, [0]), rows_of_cycles(9))


class TestFactors(unittest.TestCase):
    def test_made_up_sets(self):
        counts = {"factor": 0, "none": 0, "walked": 0}
        for side, within in drawn(2, 200):
            steps = graph(side, within)
            if not has_factor(steps):
                counts["none"] += 1
                self.check_none(side, within)
                continue
            counts["factor"] += 1
            duel = Duel(side, within)
            factor = fraction(duel.factor)
            values = highest(steps, factor)
            self.assertEqual({here: fraction(duel.excess(here)) for here in steps}, values)
            self.assertEqual(fraction(duel.most), max(values.values()))
            self.assertGreaterEqual(factor, 0)
            paid, rival = loop_costs(self, side, duel.marks, duel.lead, duel.loop, within)
            self.assertGreater(rival, 0)
            self.assertEqual(paid, factor * rival)
            self.check_belongs(side, duel.marks, duel.lead + 3 * duel.loop, within)
            if len(steps) <= 20:
                counts["walked"] += 1
                self.assertEqual(best_closed_walk(steps, factor), 0)
        self.assertGreater(min(counts.values()), 20)

    def check_none(self, side, within):
        with self.assertRaises(NoFactor) as caught:
            Duel(side, within)
        error = caught.exception
        self.assertEqual(len(error.marks), 2 if isinstance(side, Rule) else 0)
        paid, rival = loop_costs(self, side, error.marks, error.lead, error.loop, within)
        self.assertEqual(rival, 0)
        self.assertGreater(paid, 0)
        self.check_belongs(side, error.marks, error.lead + 3 * error.loop, within)

    def check_belongs(self, side, marks, letters, within):
        """The calls of a walk belong to the set."""
        calls = []
        stand = begin(side, marks)
        for letter in letters:
            if letter != "x":
                calls.append(stand[2] if letter == "f" else 1 - stand[2])
            stand = step(entries_of(side), stand, letter)[0]
        self.assertIn(calls, within)

    def test_the_set_of_all_sequences(self):
        for side in sound_sides(3, 40):
            if len(graph(side)) <= 200:
                duel, bare = Duel(side, ALL), Duel(side)
                self.assertEqual(str(duel.factor), str(bare.factor))
                self.assertEqual(str(duel.most), str(bare.most))
        self.assertEqual(str(Duel(late(), None).factor), str(Duel(late()).factor))

    def test_runs(self):
        for least in range(1, 5):
            for most in range(least, 6):
                within = RowSet.runs(least, most)
                for side in (front(), late(), front() ** 2, 2 * front() + late(), still()):
                    duel = Duel(side=side, within=within)
                    steps = graph(side, within)
                    self.assertEqual(fraction(duel.most), max(highest(steps, fraction(duel.factor)).values()))
                    paid, rival = loop_costs(self, side, duel.marks, duel.lead, duel.loop, within)
                    self.assertEqual(paid, fraction(duel.factor) * rival)
                    if len(steps) <= 24:
                        self.assertEqual(best_closed_walk(steps, fraction(duel.factor)), 0)

    def test_less_than_two(self):
        # Both cases are called three times in a row, so the rival pays 1 for them, and so does front.
        self.assertEqual(str(Duel(front(), RowSet.runs(3, 3)).factor), "1")
        self.assertEqual(str(Duel(front(), RowSet.runs(1, 1)).factor), "2")

    def test_dead_ends(self):
        # No loop has a call: only two exchanges are left.
        for side in (front(), late(), still(), 1 * still() + late(), front() ** 2):
            for rows in ([(None, None)], [(1, 1), (2, None), (None, 3), (None, None)]):
                duel = Duel(side, RowSet(rows))
                self.assertEqual(duel.factor, 0)
                self.assertEqual(duel.loop, "xx")
                self.assertEqual(loop_costs(self, side, duel.marks, duel.lead, duel.loop, RowSet(rows)), (0, 2))
        self.assertEqual(Duel(front(), RowSet([(None, None)])).most, 1)
        self.assertEqual(Duel(still(), RowSet([(1, None), (2, None), (None, None)])).most, 3)

    def test_marks_of_a_duel_in_which_no_loop_costs_anything(self):
        duel = Duel(front() ** 2, RowSet([(None, None)]))
        self.assertEqual(len(duel.marks), 2)
        self.assertEqual(Duel(1 * front(), RowSet([(None, None)])).marks, ())

    def test_no_factor_within_a_set(self):
        self.check_none(still(), ALL)
        self.check_none(front() + still(), RowSet([(0, None)]))
        self.check_none(marked([(0, "back")]), RowSet([(0, 0)]))
        # Only the set decides whether the free calls can go on.
        self.assertEqual(str(Duel(still(), RowSet.runs(1, 2)).factor), "2")

    def test_great_weights(self):
        mix = Mix([(10 ** 39 + 1, late()), (10 ** 38, front() ** 2), (7, front())])
        within = RowSet.runs(2, 4)
        duel = Duel(mix, within)
        steps = graph(mix, within)
        self.assertEqual(fraction(duel.most), max(highest(steps, fraction(duel.factor)).values()))
        paid, rival = loop_costs(self, mix, (), duel.lead, duel.loop, within)
        self.assertEqual(paid, fraction(duel.factor) * rival)

    def test_the_same_when_asked_twice_and_arguments_stay(self):
        for side, within in drawn(4, 30):
            before = str(within)
            told = []
            for _ in range(2):
                try:
                    duel = Duel(side, within)
                    told.append((str(duel.factor), duel.marks, duel.lead, duel.loop, str(duel.most), duel.size))
                except NoFactor as error:
                    told.append((error.marks, error.lead, error.loop))
            self.assertEqual(told[0], told[1])
            self.assertEqual(str(within), before)


if __name__ == "__main__":
    unittest.main()

"""Point 47: intersections, unions, comparisons and least forms of row sets."""

import random
import unittest
from itertools import product
from operator import ge, gt, le, lt

from pairahead.rowsets import RowSet
from pairs import made_up_rows, sequences

ALL = RowSet([(0, 0)])
SINGLE = RowSet([(None, None)])
WORDS = list(sequences(7))


def made_up_sets(seed, many, most_states=4, ends=0.3):
    chance = random.Random(seed)
    return [RowSet(made_up_rows(chance, most_states, ends)) for _ in range(many)]


def inside(rows, most):
    """All sequences of up to so many calls in the set."""
    return {calls for calls in sequences(most) if calls in rows}


def visited(rows):
    """The states in the order of the visit that the least form asks for."""
    order = [0]
    for state in order:
        for after in rows[state]:
            if after is not None and after not in order:
                order.append(after)
    return order


def answers(rows, state, words):
    """Which words of same (0) and other (1) can be read from a state."""
    result = []
    for word in words:
        at = state
        for step in word:
            at = at if at is None else rows[at][step]
        result.append(at is not None)
    return tuple(result)


def respelled(chance, rows):
    """An equal set with shuffled states (but for state 0), a doubled one and one that nothing leads to."""
    count = len(rows)
    doubled = chance.randrange(count)
    longer = [list(row) for row in rows] + [list(rows[doubled]), [0, None]]
    for row in longer:
        for at in (0, 1):
            if row[at] == doubled and chance.random() < 0.5:
                row[at] = count
    places = list(range(1, count + 2))
    chance.shuffle(places)
    places = [0] + places
    moved = [None] * (count + 2)
    for state, row in enumerate(longer):
        moved[places[state]] = tuple([None if entry is None else places[entry] for entry in row])
    return RowSet(moved)


class TestLeast(unittest.TestCase):
    def assert_least(self, made):
        """It is numbered by the visit, and no two of its states read the same words."""
        count = len(made.rows)
        self.assertEqual(visited(made.rows), list(range(count)))
        words = list(sequences(min(count, 6)))
        self.assertEqual(len({answers(made.rows, state, words) for state in range(count)}), count)

    def test_alike_states(self):
        self.assertEqual(RowSet([(1, 1), (0, 0)]).least().rows, ((0, 0),))
        self.assertEqual(RowSet([(1, None), (2, None), (0, None)]).least().rows, ((0, None),))
        self.assertEqual(RowSet.read("1 2; - 0; - 0").least().rows, ((1, 1), (None, 0)))

    def test_states_that_nothing_leads_to(self):
        self.assertEqual(RowSet([(None, None), (0, 1)]).least().rows, ((None, None),))
        self.assertEqual(RowSet.read("2 -; 0 1; - 2").least().rows, ((1, None), (None, 1)))

    def test_the_numbers(self):
        self.assertEqual(str(RowSet.read("2 1; 0 -; - 0").least()), "1 2; - 0; 0 -")
        self.assertEqual(str(RowSet.read("- 2; 1 -; 3 1; - -").least()), "- 1; 2 3; - -; 3 -")

    def test_of_a_set_in_least_form(self):
        for text in ("0 0", "- -", "1 -; - 0", "1 2; - 0; 0 -", "- 1; 2 3; - -; 3 -"):
            made = RowSet.read(text)
            self.assertEqual(str(made.least()), text)
            self.assertIsNot(made.least(), made)
            self.assertIsInstance(made.least(), RowSet)

    def test_none_is_told_from_a_step_to_the_same_state(self):
        self.assertEqual(RowSet([(0, None)]).least().rows, ((0, None),))
        self.assertEqual(RowSet([(None, 0)]).least().rows, ((None, 0),))
        self.assertEqual(RowSet([(0, 1), (1, None)]).least().rows, ((0, 1), (1, None)))

    def test_made_up_sets(self):
        chance = random.Random(21)
        for made in made_up_sets(20, 150, 6):
            least = made.least()
            self.assert_least(least)
            self.assertEqual(inside(least, 7), inside(made, 7))
            self.assertEqual(respelled(chance, made.rows).least().rows, least.rows)

    def test_many_states(self):
        line = [(state + 1, None) for state in range(47)]
        self.assertEqual(RowSet(line + [(0, None)]).least().rows, ((0, None),))
        self.assertEqual(RowSet(line + [(47, 0)]).least().rows, tuple(line + [(47, 0)]))
        self.assertEqual(len(RowSet([(None, None)] * 48).least().rows), 1)

    def test_the_set_stays_as_it_was(self):
        made = RowSet.read("1 1; 0 0; - 2")
        made.least()
        self.assertEqual(str(made), "1 1; 0 0; - 2")


class TestBoth(unittest.TestCase):
    def test_small_ones(self):
        self.assertEqual(str(RowSet.runs(1, 2) & RowSet.runs(2, 3)), "1 -; - 0")
        self.assertEqual(str(RowSet.runs(1, 2) | RowSet.runs(2, 3)), "1 2; 3 0; 4 2; - 5; - 2; 6 -; 3 5")
        self.assertEqual(str(RowSet([(0, None)]) & RowSet([(None, 0)])), "- -")
        self.assertEqual(str(RowSet([(0, None)]) | RowSet([(None, 0)])), "1 2; 1 -; - 2")

    def test_with_everything_and_as_little_as_possible(self):
        for made in made_up_sets(30, 20):
            self.assertEqual((made & ALL).rows, made.least().rows)
            self.assertEqual((made | SINGLE).rows, made.least().rows)
            self.assertEqual((made & made).rows, made.least().rows)
            self.assertEqual((made | made).rows, made.least().rows)
            self.assertEqual((made | ALL).rows, ((0, 0),))
            self.assertEqual((ALL | made).rows, ((0, 0),))
            self.assertEqual((SINGLE & made).rows, ((None, None),))

    def test_call_by_call(self):
        for one, two in product(made_up_sets(31, 14, 5), repeat=2):
            both, either = one & two, one | two
            self.assertIsInstance(both, RowSet)
            self.assertIsInstance(either, RowSet)
            for calls in WORDS:
                self.assertIs(calls in both, calls in one and calls in two)
                self.assertIs(calls in either, calls in one or calls in two)

    def test_least_form(self):
        for one, two in product(made_up_sets(32, 14, 5), repeat=2):
            for made in (one & two, one | two):
                self.assertEqual(made.least().rows, made.rows)
                self.assertEqual(visited(made.rows), list(range(len(made.rows))))
            self.assertEqual((one & two).rows, (two & one).rows)
            self.assertEqual((one | two).rows, (two | one).rows)

    def test_a_sequence_that_one_of_them_holds_to_its_end(self):
        union = RowSet.read("1 -; - -") | RowSet.read("- 1; 1 -")
        self.assertEqual(str(union), "1 2; - -; 2 -")
        self.assertTrue((0, 1, 1, 1, 1) in union)
        self.assertTrue((0, 0) in union)
        self.assertFalse((0, 0, 0) in union)

    def test_many_states(self):
        six, eight = RowSet([(1, 0), (2, 1), (3, 2), (4, 3), (5, 4), (0, None)]), RowSet.runs(3, 8)
        made = six & eight
        self.assertEqual(made.rows, made.least().rows)
        self.assertLessEqual(len(made.rows), 48)
        wide = RowSet.runs(1, 48) | RowSet.runs(47, 47)
        self.assertEqual(wide.rows, RowSet.runs(1, 48).rows)
        narrow = RowSet.runs(1, 48) & RowSet.runs(40, 45)
        self.assertEqual(narrow.rows, RowSet.runs(40, 45).rows)

    def test_pairs_of_states_that_fall_together(self):
        # 47 * 48 pairs of states are reached, but all of them are alike.
        one = RowSet([((state + 1) - 47 * (state == 46), 0) for state in range(47)])
        two = RowSet([((state + 1) - 48 * (state == 47), state) for state in range(48)])
        self.assertEqual((one & two).rows, ((0, 0),))
        self.assertEqual((one | two).rows, ((0, 0),))

    def test_results_with_somewhat_more_states(self):
        one = RowSet([(state + 1, None) for state in range(6)] + [(0, 0)])
        two = RowSet([(state + 1, None) for state in range(7)] + [(0, 0)])
        both = one & two
        self.assertEqual(len(both.rows), 56)
        self.assertTrue([0] * 56 + [1] in both)
        self.assertFalse([0] * 49 + [1] in both)
        self.assertTrue(both <= one)

    def test_the_operands_stay_as_they_were(self):
        one, two = RowSet.read("1 1; 0 0; - 2"), RowSet.read("1 -; - 0")
        for result in (one & two, one | two, one == two, one <= two, one < two):
            self.assertEqual((str(one), str(two)), ("1 1; 0 0; - 2", "1 -; - 0"))

    def test_other_things(self):
        for other in (None, 1, ((0, 0),), "0 0"):
            with self.assertRaises(TypeError):
                ALL & other
            with self.assertRaises(TypeError):
                ALL | other


class TestComparisons(unittest.TestCase):
    def compare(self, one, two, within, holds):
        """Whether one is within two, and whether two is within one."""
        self.assertIs(one <= two, within)
        self.assertIs(one >= two, holds)
        self.assertIs(one < two, within and not holds)
        self.assertIs(one > two, holds and not within)
        self.assertIs(one == two, within and holds)
        self.assertIs(one != two, not (within and holds))

    def both_ways(self, one, two, within, holds):
        self.compare(one, two, within, holds)
        self.compare(two, one, holds, within)

    def test_equal_sets_with_other_rows(self):
        self.both_ways(ALL, RowSet([(1, 1), (0, 0)]), True, True)
        self.both_ways(SINGLE, RowSet([(None, None), (0, 1)]), True, True)
        chance = random.Random(41)
        for made in made_up_sets(40, 60, 6):
            self.both_ways(made, respelled(chance, made.rows), True, True)
            self.both_ways(made, made.least(), True, True)

    def test_a_set_with_itself(self):
        for made in [ALL, SINGLE, RowSet.runs(2, 3)]:
            self.compare(made, made, True, True)

    def test_sets_within_each_other(self):
        self.both_ways(SINGLE, ALL, True, False)
        self.both_ways(RowSet.runs(2, 3), RowSet.runs(1, 3), True, False)
        self.both_ways(RowSet.runs(2, 3), RowSet.runs(2, 4), True, False)
        self.both_ways(RowSet([(None, 0)]), RowSet.runs(1, 2), True, False)

    def test_sets_of_which_neither_holds_the_other(self):
        self.both_ways(RowSet([(None, 0)]), RowSet([(0, None)]), False, False)
        self.both_ways(RowSet.runs(1, 2), RowSet.runs(2, 3), False, False)

    def test_sets_that_differ_only_late(self):
        line = [(state + 1, None) for state in range(47)]
        one, two = RowSet(line + [(None, None)]), RowSet(line + [(None, 0)])
        self.both_ways(one, two, True, False)
        self.both_ways(two, RowSet(line + [(0, None)]), False, False)

    def test_against_all_sequences(self):
        for one, two in product(made_up_sets(42, 25, 3), repeat=2):
            left, right = inside(one, 8), inside(two, 8)
            self.compare(one, two, left <= right, left >= right)

    def test_with_intersections_and_unions(self):
        for one, two in product(made_up_sets(43, 10, 4), repeat=2):
            self.assertTrue(one & two <= one)
            self.assertTrue(one | two >= two)
            self.assertIs(one & two == one, one <= two)
            self.assertIs(one | two == one, one >= two)

    def test_other_things(self):
        for other in (None, 1, ((0, 0),), "0 0"):
            self.assertIs(ALL == other, False)
            self.assertIs(ALL != other, True)
            for compare in (lt, le, gt, ge):
                with self.assertRaises(TypeError):
                    compare(ALL, other)


if __name__ == "__main__":
    unittest.main()

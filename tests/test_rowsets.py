"""Points 45, 46 and 48: row sets, their texts, what belongs to them, and the sets of runs."""

import random
import unittest

from pairahead.errors import InvalidRows, PairError
from pairahead.rowsets import RowSet
from pairs import made_up_rows, sequences, state_read

RING = [(state + 1, None) for state in range(47)] + [(0, 47)]


def runs_of(calls):
    """The lengths of the runs of the same call."""
    lengths = []
    for at, call in enumerate(calls):
        if at > 0 and calls[at - 1] == call:
            lengths[-1] += 1
        else:
            lengths.append(1)
    return lengths


class TestRows(unittest.TestCase):
    def refuse(self, rows):
        with self.assertRaises(InvalidRows):
            RowSet(rows)

    def test_lists_and_tuples(self):
        for rows in ([(1, None), (None, 0)], ((1, None), (None, 0)), [[1, None], [None, 0]], ([1, None], (None, 0))):
            self.assertEqual(RowSet(rows).rows, ((1, None), (None, 0)))
            self.assertEqual(RowSet(rows=rows).rows, ((1, None), (None, 0)))

    def test_the_kinds_of_the_rows(self):
        rows = RowSet([[1, None], [None, 0]]).rows
        self.assertIsInstance(rows, tuple)
        self.assertTrue(all(isinstance(row, tuple) for row in rows))

    def test_rows_that_are_changed_afterwards(self):
        rows = [[1, None], [None, 0]]
        made = RowSet(rows)
        rows[0][0] = 0
        rows.append([0, 0])
        self.assertEqual(made.rows, ((1, None), (None, 0)))
        self.assertEqual(rows, [[0, None], [None, 0], [0, 0]])

    def test_the_number_of_rows(self):
        self.refuse([])
        self.refuse(())
        self.assertEqual(len(RowSet([(0, 0)]).rows), 1)
        self.assertEqual(len(RowSet(RING).rows), 48)
        self.refuse(RING + [(0, 0)])
        self.refuse([(None, None)] * 49)
        self.refuse([(0, 0)] * 200)

    def test_rows_of_another_length(self):
        for row in ((), (0,), (0, 0, 0), (None,), (None, None, None), [0, 0, 0, 0]):
            self.refuse([row])
            self.refuse([(0, 0), row])
            self.refuse([row, (0, 0)])

    def test_entries_that_are_no_states(self):
        for entry in (2, 3, 48, -1, -2, True, False, "0", "-", "", (0,), [0]):
            for at in (0, 1):
                for row in (0, 1):
                    rows = [[1, 0], [None, 1]]
                    rows[row][at] = entry
                    self.refuse(rows)
        self.refuse([(1, 0)])
        self.refuse([(0, 1)])

    def test_entries_that_are_states_or_none(self):
        for entry in (0, 1, None):
            for at in (0, 1):
                rows = [[1, 0], [None, 1]]
                rows[1][at] = entry
                self.assertEqual(RowSet(rows).rows, tuple(map(tuple, rows)))

    def test_the_error_is_a_pair_error(self):
        with self.assertRaises(PairError):
            RowSet([])


class TestTexts(unittest.TestCase):
    def refuse(self, text):
        with self.assertRaises(InvalidRows, msg=repr(text)):
            RowSet.read(text)

    def test_texts(self):
        self.assertEqual(str(RowSet([(0, 0)])), "0 0")
        self.assertEqual(str(RowSet([(None, None)])), "- -")
        self.assertEqual(str(RowSet([(1, None), (None, 0)])), "1 -; - 0")
        self.assertTrue(str(RowSet(RING)).endswith("46 -; 47 -; 0 47"))

    def test_reading_back(self):
        chance = random.Random(1)
        for _ in range(100):
            made = RowSet(made_up_rows(chance, 12))
            back = RowSet.read(str(made))
            self.assertIsInstance(back, RowSet)
            self.assertEqual((back.rows, str(back)), (made.rows, str(made)))
        self.assertEqual(RowSet.read(text=str(RowSet(RING))).rows, tuple(RING))
        self.assertEqual(RowSet.read("0 0; 0 -").rows, ((0, 0), (0, None)))

    def test_reading_as_a_method_of_an_object(self):
        self.assertEqual(RowSet([(0, 0)]).read("- 0").rows, ((None, 0),))

    def test_numbers_written_otherwise(self):
        rows = "; ".join(["0 0"] * 12)
        self.assertEqual(RowSet.read(f"{rows}; 11 10").rows[12], (11, 10))
        for word in ("00", "01", "+0", "-0", "-1", "--", "0.0", "0x0", "", "x", "None", "\u0661", "\u00b2", "1_0", "1,"):
            self.refuse(f"{word} 0; 0 0")
            self.refuse(f"0 {word}; 0 0")
            self.refuse(f"0 0; 0 {word}")

    def test_blanks_and_signs(self):
        for text in (" 0 0", "0 0 ", "0  0", "0\t0", "0\n0", "0 0\n", "\n0 0", "0 0; 0 0\n", "0 0;0 0", "0 0 ;0 0",
                     "0 0 ; 0 0", "0 0;  0 0", "0 0, 0 0", "0 0: 0 0", "0 0; 0 0;", "0 0; 0 0; ", "; 0 0", ";", "; ",
                     "0 0; ; 0 0", "0 0;; 0 0", "0-0", "0/0", "(0 0)", "0 0 | 0", "0 0\r", "0\u00a00"):
            self.refuse(text)

    def test_missing_and_doubled_pieces(self):
        for text in ("", " ", "0", "-", "0 ", "0 0 0", "0 0 -", "- - -", "0 0; 0", "0; 0 0", "0 0; 0 0 0"):
            self.refuse(text)

    def test_states_out_of_range(self):
        for text in ("1 0", "0 1", "0 0; 2 0", "0 0; 0 2", "48 0", "100 0", "99999999999999999999 0"):
            self.refuse(text)

    def test_the_number_of_rows(self):
        self.assertEqual(len(RowSet.read("; ".join(["- -"] * 48)).rows), 48)
        self.refuse("; ".join(["- -"] * 49))

    def test_texts_of_other_things(self):
        for text in ("0 stay 0 go", "0 0 last", "0 0 free", "0 fall"):
            self.refuse(text)


class TestBelonging(unittest.TestCase):
    def test_a_set_with_one_row(self):
        alternating = RowSet([(None, 0)])
        for calls in ((), (0,), (1,), (0, 1), (1, 0), (0, 1, 0, 1), (1, 0, 1)):
            self.assertTrue(calls in alternating)
            self.assertTrue(list(calls) in alternating)
        for calls in ((0, 0), (1, 1), (0, 1, 1), (1, 0, 1, 1), (0, 0, 1), (0, 1, 1, 0)):
            self.assertFalse(calls in alternating)
            self.assertFalse(list(calls) in alternating)

    def test_everything_and_as_little_as_possible(self):
        for calls in sequences(5):
            self.assertTrue(calls in RowSet([(0, 0)]))
            self.assertIs(calls in RowSet([(None, None)]), len(calls) < 2)

    def test_the_empty_sequence_and_single_calls_always_belong(self):
        chance = random.Random(2)
        for _ in range(30):
            made = RowSet(made_up_rows(chance, 4, 0.8))
            for calls in ((), (0,), (1,), [], [0], [1]):
                self.assertTrue(calls in made)

    def test_against_reading_call_by_call(self):
        chance = random.Random(3)
        for _ in range(60):
            made = RowSet(made_up_rows(chance, 6))
            for calls in sequences(7):
                expected = not calls or state_read(made.rows, calls) is not None
                self.assertIs(calls in made, expected)
                self.assertIs(list(calls) not in made, not expected)

    def test_beginnings_and_exchanged_cases_belong_too(self):
        made = RowSet.read("1 0; - 2; 0 1")
        for calls in sequences(8):
            if calls in made:
                self.assertTrue(calls[:-1] in made)
                self.assertTrue([1 - call for call in calls] in made)

    def test_long_sequences(self):
        pairs_of_calls = RowSet.read("1 -; - 0")
        self.assertTrue((0, 0, 1, 1) * 100 in pairs_of_calls)
        self.assertFalse((0, 0, 1, 1) * 99 + (0, 0, 1, 0) in pairs_of_calls)
        self.assertFalse([0] + [0, 0, 1, 1] * 99 + [0, 0, 1] in pairs_of_calls)
        self.assertTrue([0] * 400 in RowSet([(0, None)]))
        self.assertFalse([0] * 399 + [1] in RowSet([(0, None)]))

    def test_the_calls_stay_as_they_were(self):
        calls = [0, 0, 1]
        self.assertTrue(calls in RowSet([(0, 0)]))
        self.assertEqual(calls, [0, 0, 1])


class TestRuns(unittest.TestCase):
    def test_example_of_the_interface(self):
        self.assertEqual(str(RowSet.runs(2, 3)), "1 -; 2 0; - 0")

    def test_small_bounds(self):
        for (least, most), text in {
            (1, 1): "- 0", (1, 2): "1 0; - 0", (2, 2): "1 -; - 0", (1, 3): "1 0; 2 0; - 0", (3, 3): "1 -; 2 -; - 0",
            (2, 4): "1 -; 2 0; 3 0; - 0",
        }.items():
            self.assertEqual(str(RowSet.runs(least, most)), text)
            self.assertEqual(str(RowSet.runs(least=least, most=most)), text)
            self.assertIsInstance(RowSet.runs(least, most), RowSet)

    def test_call_by_call(self):
        for most in range(1, 6):
            for least in range(1, most + 1):
                made = RowSet.runs(least, most)
                for calls in sequences(9):
                    lengths = runs_of(calls)
                    fits = all(length <= most for length in lengths)
                    fits = fits and all(length >= least for length in lengths[:-1])
                    self.assertIs(calls in made, fits, (least, most, calls))

    def test_the_greatest_bounds(self):
        for least in (1, 2, 24, 47, 48):
            made = RowSet.runs(least, 48)
            self.assertEqual(len(made.rows), 48)
            self.assertEqual(RowSet.read(str(made)).rows, made.rows)
            for length in (1, 2, 23, 24, 25, 46, 47, 48, 49):
                self.assertIs([0] * length in made, length <= 48)
                self.assertIs([1] * length + [0] in made, least <= length <= 48)
                self.assertIs([1] * 48 + [0] * length + [1] in made, least <= length <= 48)

    def test_least_form(self):
        for least, most in ((1, 1), (1, 2), (2, 2), (3, 7), (7, 7), (1, 48), (48, 48), (20, 48)):
            made = RowSet.runs(least, most)
            self.assertEqual(made.least().rows, made.rows)
            self.assertEqual(len(made.rows), most)

    def test_somewhat_greater_bounds(self):
        self.assertTrue([0] * 50 + [1] in RowSet.runs(49, 50))
        self.assertFalse([0] * 48 + [1] in RowSet.runs(49, 50))
        self.assertFalse([0] * 51 in RowSet.runs(49, 50))


if __name__ == "__main__":
    unittest.main()

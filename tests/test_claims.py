"""Points 50 to 52: claims, their texts, their verdicts and their operators."""

import random
import unittest
from itertools import product

from pairahead.claims import Claim
from pairahead.errors import InvalidClaim, PairError
from pairs import made_up_claims, sequences, state_read

WORDS = ("last", "other", "free", "none")
ALLOWED = {"last": {"last"}, "other": {"other"}, "free": {"last", "other"}, "none": set()}
WORD_OF = {frozenset(allowed): word for word, allowed in ALLOWED.items()}
CALLS = list(sequences(7))[1:]
LONG = [(state + 1, 0, "free") for state in range(47)] + [(47, 47, "last")]


def all_verdicts(claim):
    return [claim.verdict(calls) for calls in CALLS]


class TestRows(unittest.TestCase):
    def refuse(self, rows):
        with self.assertRaises(InvalidClaim):
            Claim(rows)

    def test_lists_and_tuples(self):
        for rows in ([(1, 0, "last"), (1, 1, "free")], ((1, 0, "last"), (1, 1, "free")),
                     [[1, 0, "last"], [1, 1, "free"]], ([1, 0, "last"], (1, 1, "free"))):
            self.assertEqual(Claim(rows).rows, ((1, 0, "last"), (1, 1, "free")))
            self.assertEqual(Claim(rows=rows).rows, ((1, 0, "last"), (1, 1, "free")))

    def test_the_kinds_of_the_rows(self):
        rows = Claim([[1, 0, "last"], [1, 1, "free"]]).rows
        self.assertIsInstance(rows, tuple)
        self.assertTrue(all(isinstance(row, tuple) for row in rows))

    def test_rows_that_are_changed_afterwards(self):
        rows = [[1, 0, "last"], [1, 1, "free"]]
        made = Claim(rows)
        rows[0][2] = "none"
        rows.append([0, 0, "last"])
        self.assertEqual(made.rows, ((1, 0, "last"), (1, 1, "free")))
        self.assertEqual(rows, [[1, 0, "none"], [1, 1, "free"], [0, 0, "last"]])

    def test_the_number_of_rows(self):
        self.refuse([])
        self.refuse(())
        self.assertEqual(len(Claim([(0, 0, "none")]).rows), 1)
        self.assertEqual(len(Claim(LONG).rows), 48)
        self.refuse(LONG + [(0, 0, "last")])
        self.refuse([(0, 0, "last")] * 49)

    def test_rows_of_another_length(self):
        for row in ((), (0,), (0, 0), (0, "last"), (0, 0, "last", "last"), (0, 0, 0, "last"), [0, 0]):
            self.refuse([row])
            self.refuse([(0, 0, "last"), row])
            self.refuse([row, (0, 0, "last")])

    def test_entries_that_are_no_states(self):
        for entry in (2, 3, 48, -1, -2, True, False, None, "0", "-", "last", (0,)):
            for at, row in product((0, 1), repeat=2):
                rows = [[1, 0, "last"], [0, 1, "other"]]
                rows[row][at] = entry
                self.refuse(rows)

    def test_the_four_words_and_others(self):
        for word in WORDS:
            self.assertEqual(Claim([(0, 0, word)]).rows, ((0, 0, word),))
        for word in ("", "Last", "first", "last ", " last", "any", "front", None, 0, True, False, ("last",), ["last"]):
            self.refuse([(0, 0, word)])
            self.refuse([(0, 0, "last"), (0, 0, word)])

    def test_the_error_is_a_pair_error(self):
        with self.assertRaises(PairError):
            Claim([])


class TestTexts(unittest.TestCase):
    def refuse(self, text):
        with self.assertRaises(InvalidClaim, msg=repr(text)):
            Claim.read(text)

    def test_texts(self):
        self.assertEqual(str(Claim([(0, 0, "last")])), "0 0 last")
        self.assertEqual(str(Claim([(1, 0, "other"), (1, 1, "none")])), "1 0 other; 1 1 none")
        self.assertTrue(str(Claim(LONG)).endswith("47 0 free; 47 47 last"))

    def test_reading_back(self):
        for made in made_up_claims(1, 100, 14) + [Claim(LONG)]:
            back = Claim.read(str(made))
            self.assertIsInstance(back, Claim)
            self.assertEqual((back.rows, str(back)), (made.rows, str(made)))
        self.assertEqual(Claim.read(text="0 0 free").rows, ((0, 0, "free"),))

    def test_numbers_written_otherwise(self):
        rows = "; ".join(["0 0 last"] * 12)
        self.assertEqual(Claim.read(f"{rows}; 11 10 free").rows[12], (11, 10, "free"))
        for word in ("00", "01", "+0", "-0", "-1", "-", "", "x", "None", "0.0", "\u0661", "\u00b2", "1_0", "last"):
            self.refuse(f"{word} 0 last; 0 0 last")
            self.refuse(f"0 {word} last; 0 0 last")
            self.refuse(f"0 0 last; 0 {word} last")

    def test_blanks_and_signs(self):
        for text in (" 0 0 last", "0 0 last ", "0  0 last", "0 0  last", "0\t0 last", "0 0\nlast", "0 0 last\n",
                     "\n0 0 last", "0 0 last;0 0 last", "0 0 last ; 0 0 last", "0 0 last;  0 0 last",
                     "0 0 last, 0 0 last", "0 0 last;", "0 0 last; ", "; 0 0 last", ";", "; ",
                     "0 0 last; ; 0 0 last", "0 0 last;; 0 0 last", "0 0 last | 0", "0 0 last\r"):
            self.refuse(text)

    def test_missing_and_doubled_pieces(self):
        for text in ("", " ", "0", "last", "0 0", "0 last", "0 0 0", "last 0 0", "0 last 0", "0 0 last last",
                     "0 0 0 last", "0 0 last 0", "0 0 last; 0 0", "0 0; 0 0 last", "0 0 "):
            self.refuse(text)

    def test_other_words(self):
        for word in ("Last", "LAST", "las", "lastt", "any", "None", "front", "-", "0"):
            self.refuse(f"0 0 {word}")

    def test_states_out_of_range(self):
        for text in ("1 0 last", "0 1 last", "0 0 last; 2 0 last", "48 0 last", "99999999999999999999 0 last"):
            self.refuse(text)

    def test_the_number_of_rows(self):
        self.assertEqual(len(Claim.read("; ".join(["0 0 free"] * 48)).rows), 48)
        self.refuse("; ".join(["0 0 free"] * 49))

    def test_texts_of_other_things(self):
        for text in ("0 stay 0 go", "0 0", "- -", "0 - last"):
            self.refuse(text)


class TestVerdicts(unittest.TestCase):
    def test_a_claim_of_two_rows(self):
        claim = Claim.read("1 0 free; 1 0 last")
        for calls, word in {(0,): "free", (1,): "free", (0, 0): "last", (1, 1): "last", (0, 1): "free",
                            (0, 1, 1): "last", (1, 1, 1): "last", (1, 1, 0): "free"}.items():
            self.assertEqual(claim.verdict(calls), word)
            self.assertEqual(claim.verdict(list(calls)), word)
            self.assertEqual(claim.verdict(calls=calls), word)

    def test_call_by_call(self):
        for claim in made_up_claims(2, 50, 6):
            for calls in CALLS:
                self.assertEqual(claim.verdict(calls), claim.rows[state_read(claim.rows, calls)][2])

    def test_long_sequences(self):
        claim = Claim(LONG)
        self.assertEqual(claim.verdict([1] * 47), "free")
        self.assertEqual(claim.verdict([1] * 48), "last")
        self.assertEqual(claim.verdict([0, 1] * 200), "free")
        self.assertEqual(claim.verdict([0] + [1] * 48 + [0, 1] * 100), "last")

    def test_the_calls_stay_as_they_were(self):
        calls = [0, 1, 1]
        Claim.read("0 0 last").verdict(calls)
        self.assertEqual(calls, [0, 1, 1])


class TestOperators(unittest.TestCase):
    def test_the_sixteen_pairs_of_verdicts(self):
        for one, two in product(WORDS, repeat=2):
            both = WORD_OF[frozenset(ALLOWED[one] & ALLOWED[two])]
            either = WORD_OF[frozenset(ALLOWED[one] | ALLOWED[two])]
            for calls in ((0,), (1, 1), (0, 1, 0)):
                self.assertEqual((Claim([(0, 0, one)]) & Claim([(0, 0, two)])).verdict(calls), both)
                self.assertEqual((Claim([(0, 0, one)]) | Claim([(0, 0, two)])).verdict(calls), either)

    def test_last_and_other(self):
        last, other = Claim.read("0 0 last"), Claim.read("0 0 other")
        self.assertEqual((last & other).verdict((0,)), "none")
        self.assertEqual((last | other).verdict((0,)), "free")

    def test_the_four_verdicts_denied(self):
        for word, denied in (("last", "other"), ("other", "last"), ("free", "none"), ("none", "free")):
            for calls in ((0,), (1, 1), (0, 1, 0)):
                self.assertEqual((~Claim([(0, 0, word)])).verdict(calls), denied)

    def test_call_by_call(self):
        for one, two in product(made_up_claims(3, 12, 5), repeat=2):
            both, either = one & two, one | two
            self.assertIsInstance(both, Claim)
            self.assertIsInstance(either, Claim)
            for calls in CALLS:
                left, right = ALLOWED[one.verdict(calls)], ALLOWED[two.verdict(calls)]
                self.assertEqual(ALLOWED[both.verdict(calls)], left & right)
                self.assertEqual(ALLOWED[either.verdict(calls)], left | right)

    def test_denied_claims_call_by_call(self):
        for claim in made_up_claims(4, 60, 6):
            denied = ~claim
            self.assertIsInstance(denied, Claim)
            for calls in CALLS:
                self.assertEqual(ALLOWED[denied.verdict(calls)], ALLOWED["free"] - ALLOWED[claim.verdict(calls)])
            self.assertEqual(all_verdicts(~~claim), all_verdicts(claim))
            self.assertEqual(all_verdicts(~(claim & denied)), ["free"] * len(CALLS))

    def test_many_states(self):
        six = Claim([(state + 1, 0, "last") for state in range(5)] + [(0, 0, "free")])
        eight = Claim([(state + 1, 0, "other") for state in range(7)] + [(0, 0, "last")])
        for made in (six & eight, six | eight, ~Claim(LONG), Claim(LONG) & Claim(LONG)):
            self.assertLessEqual(len(made.rows), 48)
            self.assertEqual(Claim.read(str(made)).rows, made.rows)
        self.assertEqual((six & eight).verdict([0] * 24), "last")
        self.assertEqual([(six & eight).verdict([0] * many) for many in (1, 6, 8)], ["none", "other", "last"])
        self.assertEqual((six | eight).verdict([0] * 24), "free")
        self.assertEqual((~Claim(LONG)).verdict([0] * 48), "other")

    def test_pairs_of_states_that_fall_together(self):
        # 47 * 48 pairs of states are reached, but their verdicts differ in two of them at most.
        one = Claim([((state + 1) - 47 * (state == 46), 0, "free") for state in range(47)])
        two = Claim([((state + 1) - 48 * (state == 47), state, "last") for state in range(48)])
        self.assertEqual((one & two).verdict([0] * 50), "last")
        self.assertEqual((one | two).verdict([0] * 50 + [1]), "free")
        self.assertLessEqual(len((one & two).rows), 48)

    def test_results_with_somewhat_more_states(self):
        one = Claim([(state + 1, 0, "free") for state in range(6)] + [(0, 0, "last")])
        two = Claim([(state + 1, 0, "free") for state in range(7)] + [(0, 0, "last")])
        made = one & two
        self.assertEqual([at for at in range(1, 113) if made.verdict([0] * at) == "last"],
                         [at for at in range(1, 113) if at % 7 == 0 or at % 8 == 0])
        self.assertEqual((~made).verdict([1] * 56), "other")

    def test_the_operands_stay_as_they_were(self):
        one, two = Claim.read("1 0 last; 1 1 free; 2 2 none"), Claim.read("0 0 other")
        for result in (one & two, one | two, ~one, ~two):
            result.verdict((0,))
            self.assertEqual((str(one), str(two)), ("1 0 last; 1 1 free; 2 2 none", "0 0 other"))

    def test_other_things(self):
        for other in (None, 1, "0 0 last", ((0, 0, "last"),)):
            with self.assertRaises(TypeError):
                Claim.read("0 0 last") & other
            with self.assertRaises(TypeError):
                Claim.read("0 0 last") | other


if __name__ == "__main__":
    unittest.main()

"""Points 26 to 28: turns, ledgers and copies."""

import random
import unittest

from models import falling, ordering_rules, shape
from pairahead.errors import NoCase, PairError
from pairahead.rules import front, late, marked, still
from pairahead.sites import Ledger, Site


class Left(Exception):
    """What the tests leave a block by."""


def change(site):
    """Change all that a site has."""
    site.call(site.order[-1])
    site.repeat(site.order, 3)
    site[site.order[0]] = ["new"]
    site.drop(site.order[1])
    name = [name for name in ("new 0", "new 1", "new 2", "new 3") if name not in site][0]
    site.put(name, 0, 7)
    site.call(name)


def change_more(site):
    site.rule = marked([(1, "keep"), (0, "front")])
    change(site)


def leave(site, *changes):
    """Make the changes in a turn that is left by an error."""
    try:
        with site.turn():
            for deed in changes:
                deed(site)
            raise Left()
    except Left:
        return
    raise AssertionError("the error did not go on")


class TestTurns(unittest.TestCase):
    def test_left_by_an_error(self):
        for rule in ordering_rules(7, 8):
            site = Site(rule, ["a", "b", "c"], [rule.marks - 1, 0, 0])
            site["b"] = ["old"]
            site.call("c")
            for changes in ((change,), (change_more,), (change, change_more), (lambda one: one.drop("a"),), ()):
                before, targets = shape(site), [site[name] for name in site]
                other = site.copy()
                leave(site, *changes)
                self.assertEqual(shape(site), before)
                for name, target in zip(site, targets):
                    self.assertIs(site[name], target)
                self.assertIs(site.rule, rule)
                # All goes on as if nothing had been, also for newcomers.
                for one in (site, other):
                    one.put("z", 0)
                    one.repeat(["z", "a", "c"], 3)
                self.assertEqual(shape(site), shape(other))
                site.drop("z")

    def test_not_left_by_an_error(self):
        for rule in (front(), late(), front() ** 2):
            site, other = Site(rule, ["a", "b", "c"]), Site(rule, ["a", "b", "c"])
            with site.turn():
                change(site)
                with site.turn():
                    change_more(site)
            change(other)
            change_more(other)
            self.assertEqual(shape(site), shape(other))
            self.assertEqual(site.rule, other.rule)

    def test_the_error_goes_on(self):
        site = Site(front(), ["a", "b"])
        for error in (Left("x"), PairError("x"), NoCase("q"), KeyError(1), KeyboardInterrupt(), GeneratorExit()):
            before = shape(site)
            with self.assertRaises(type(error)) as caught:
                with site.turn():
                    site.call("b")
                    raise error
            self.assertIs(caught.exception, error)
            self.assertEqual(shape(site), before)

    def test_a_refused_call_in_a_turn(self):
        site = Site(front(), ["a", "b"])
        with self.assertRaises(NoCase):
            with site.turn():
                site.call("b")
                site.call("z")
        self.assertEqual((site.order, site.cost), (["a", "b"], 0))

    def test_an_error_that_is_caught_within_the_block(self):
        site = Site(front(), ["a", "b"])
        with site.turn():
            site.call("b")
            with self.assertRaises(NoCase):
                site.call("z")
        self.assertEqual((site.order, site.cost), (["b", "a"], 1))

    def test_within_one_another(self):
        site = Site(front(), ["a", "b", "c"])
        with site.turn():
            site.call("b")
            between = shape(site)
            leave(site, change)
            self.assertEqual(shape(site), between)
            with site.turn():
                site.call("c")
                leave(site, change, change_more)
                self.assertEqual(site.order, ["c", "b", "a"])
        self.assertEqual((site.order, site.cost), (["c", "b", "a"], 3))

    def test_inner_turns_are_taken_back_with_the_outer_one(self):
        def nested(one):
            with one.turn():
                change(one)
                with one.turn():
                    change_more(one)
            leave(one, change)
            one.call(one.order[1])

        site = Site(late(), ["a", "b", "c"])
        before = shape(site)
        leave(site, nested)
        self.assertEqual(shape(site), before)
        leave(site, change, nested)
        self.assertEqual(shape(site), before)

    def test_a_turn_begins_with_its_block(self):
        site = Site(front(), ["a", "b", "c"])
        turn = site.turn()
        site.call("b")
        with self.assertRaises(Left):
            with turn:
                site.call("c")
                raise Left()
        self.assertEqual((site.order, site.cost), (["b", "a", "c"], 1))

    def test_one_turn_after_another(self):
        site = Site(front(), ["a", "b", "c"])
        for name in "bcab":
            leave(site, change)
            site.call(name)
        self.assertEqual(site.order, ["b", "a", "c"])

    def test_a_return_and_a_break_leave_no_error(self):
        site = Site(front(), ["a", "b"])

        def called():
            with site.turn():
                return site.call("b")

        self.assertEqual(called(), "b")
        for _ in range(3):
            with site.turn():
                site.call("a")
                break
        self.assertEqual((site.order, site.calls), (["a", "b"], 2))


class TestLedgers(unittest.TestCase):
    def test_a_new_ledger(self):
        for book in (Ledger(), Site(front(), ["a"]).ledger()):
            self.assertIsInstance(book, Ledger)
            self.assertEqual((book.cost, book.calls), (0, 0))
            self.assertIs(book.closed, False)

    def test_the_with_statement_assigns_the_ledger_itself(self):
        site = Site(front(), ["a"])
        ledger = site.ledger()
        with ledger as book:
            self.assertIs(book, ledger)
            self.assertIs(book.closed, False)
        self.assertIs(book.closed, True)

    def test_it_counts_while_the_block_runs(self):
        site = Site(front(), ["a", "b", "c"])
        site.call("c")
        with site.ledger() as book:
            self.assertEqual((book.cost, book.calls), (0, 0))
            site.call("a")
            self.assertEqual((book.cost, book.calls), (1, 1))
            site.repeat(["b", "a"], 2)
            self.assertEqual((book.cost, book.calls), (6, 5))
            site.put("d")
            site.drop("c")
            site["a"] = 5
            self.assertEqual((book.cost, book.calls), (6, 5))
        site.call("b")
        self.assertEqual((book.cost, book.calls, book.closed), (6, 5, True))
        self.assertEqual(site.calls, 7)

    def test_not_before_its_block(self):
        site = Site(front(), ["a", "b"])
        book = site.ledger()
        site.call("b")
        self.assertEqual((book.cost, book.calls, book.closed), (0, 0, False))
        with book:
            site.call("a")
        self.assertEqual((book.cost, book.calls, book.closed), (1, 1, True))

    def test_left_by_an_error(self):
        site = Site(front(), ["a", "b"])
        with self.assertRaises(Left):
            with site.ledger() as book:
                site.call("b")
                raise Left()
        site.call("a")
        self.assertEqual((book.cost, book.calls, book.closed), (1, 1, True))
        self.assertEqual((site.cost, site.calls), (2, 2))

    def test_several_at_once(self):
        site = Site(still(), ["a", "b", "c"])
        with site.ledger() as one:
            site.call("c")
            with site.ledger() as two:
                site.call("b")
            with site.ledger() as three, site.ledger() as four:
                site.call("c")
            site.call("a")
        told = [(book.cost, book.calls, book.closed) for book in (one, two, three, four)]
        self.assertEqual(told, [(5, 4, True), (1, 1, True), (2, 1, True), (2, 1, True)])

    def test_closed_in_another_order(self):
        site = Site(front(), ["a", "b"])
        one, two = site.ledger(), site.ledger()
        one.__enter__()
        two.__enter__()
        site.call("b")
        one.__exit__(None, None, None)
        site.call("a")
        two.__exit__(None, None, None)
        site.call("b")
        self.assertEqual([(book.cost, book.calls, book.closed) for book in (one, two)], [(1, 1, True), (2, 2, True)])

    def test_calls_that_a_turn_takes_back_count(self):
        site = Site(front(), ["a", "b"])
        with site.ledger() as book:
            leave(site, lambda one: one.call("b"), lambda one: one.repeat(["a", "b"], 5))
            self.assertEqual((site.cost, site.calls), (0, 0))
            self.assertEqual((book.cost, book.calls), (11, 11))
            leave(site, change_more)
            self.assertEqual(book.closed, False)
        self.assertGreater(book.calls, 11)

    def test_a_ledger_that_is_opened_in_a_turn_that_is_taken_back(self):
        site = Site(front(), ["a", "b"])
        with self.assertRaises(Left):
            with site.turn():
                with site.ledger() as book:
                    site.call("b")
                    raise Left()
        self.assertEqual((book.cost, book.calls, book.closed), (1, 1, True))
        with site.ledger() as later:
            leave(site, lambda one: one.call("b"))
            site.call("b")
        self.assertEqual((later.cost, later.calls), (2, 2))
        self.assertEqual((book.cost, book.calls), (1, 1))

    def test_a_ledger_that_stays_open_behind_a_turn(self):
        site = Site(front(), ["a", "b"])
        book = site.ledger()
        with self.assertRaises(Left):
            with site.turn():
                book.__enter__()
                site.call("b")
                raise Left()
        site.call("b")
        self.assertEqual((book.cost, book.calls, book.closed), (2, 2, False))

    def test_a_refused_call_does_not_count(self):
        site = Site(front(), ["a", "b"])
        with site.ledger() as book:
            for deed in (lambda: site.call("z"), lambda: site.repeat(["b", "z"], 2)):
                with self.assertRaises(NoCase):
                    deed()
        self.assertEqual((book.cost, book.calls), (0, 0))

    def test_many_ledgers_in_turn(self):
        site = Site(front(), ["a", "b"])
        books = []
        for name in "bab" * 20:
            with site.ledger() as book:
                site.call(name)
            books.append(book)
        self.assertEqual({(book.calls, book.closed) for book in books}, {(1, True)})


class TestCopies(unittest.TestCase):
    def test_equal_in_everything(self):
        chance = random.Random(1)
        for rule in ordering_rules(8, 8):
            names = list("abcd")
            site = Site(rule, names, [chance.randrange(rule.marks) for _ in names])
            site["c"] = [1]
            for _ in range(10):
                site.call(chance.choice(names))
            site.drop("b")
            twin = site.copy()
            self.assertIsInstance(twin, Site)
            self.assertIsNot(twin, site)
            self.assertEqual(shape(twin), shape(site))
            self.assertIs(twin["c"], site["c"])
            self.assertIs(twin.rule, rule)
            for one in (site, twin):
                one.put("z", rule.marks - 1)
                one.repeat(["z", "a", "d"], 7)
            self.assertEqual(shape(twin), shape(site))
            for name in ("cost", "calls", "pairs", "floor"):
                self.assertIn(name, vars(twin))

    def test_independent(self):
        for changes in (change, change_more, lambda one: one.call("c"), lambda one: one.drop("a"),
                        lambda one: one.put("z"), lambda one: one.repeat(["b"], 5)):
            site = Site(late(), ["a", "b", "c"])
            site.call("b")
            twin = site.copy()
            before = shape(site)
            changes(twin)
            self.assertEqual(shape(site), before)
            self.assertEqual(site.rule, late())
            self.assertNotEqual(shape(twin), before)
            after = shape(twin)
            changes(site)
            site.call(site.order[-1])
            self.assertEqual(shape(twin), after)

    def test_targets(self):
        site = Site(front(), ["a", "b"])
        twin = site.copy()
        twin["a"] = 1
        site["b"] = 2
        self.assertEqual(([site["a"], site["b"]], [twin["a"], twin["b"]]), (["a", 2], [1, "b"]))

    def test_no_ledger_counts_the_calls_of_a_copy(self):
        site = Site(front(), ["a", "b"])
        with site.ledger() as book:
            twin = site.copy()
            twin.call("b")
            twin.copy().repeat(["a", "b"], 9)
            self.assertEqual((book.cost, book.calls), (0, 0))
            with twin.ledger() as other:
                twin.call("a")
                site.call("b")
                site.call("b")
        self.assertEqual((book.cost, book.calls, other.cost, other.calls), (1, 2, 1, 1))

    def test_copies_of_copies(self):
        site = Site(front() ** 2, ["a", "b", "c"], [1, 0, 1])
        site.call("c")
        twin = site.copy()
        twin.call("b")
        third = twin.copy()
        third.call("b")
        self.assertEqual([one.order for one in (site, twin, third)], [list("cab"), list("cab"), list("bca")])
        self.assertEqual([one.calls for one in (site, twin, third)], [1, 2, 3])
        third.rule = falling()[0]
        third.call("b")
        self.assertEqual([one.order for one in (site, twin, third)], [list("cab"), list("cab"), list("cab")])
        self.assertEqual(str(twin.rule), str(front() ** 2))

    def test_turns_of_copies(self):
        site = Site(front(), ["a", "b"])
        twins = []
        with self.assertRaises(Left):
            with site.turn():
                site.call("b")
                twins.append(site.copy())
                with twins[0].turn():
                    twins[0].call("a")
                site.call("a")
                raise Left()
        self.assertEqual((site.order, site.calls), (["a", "b"], 0))
        self.assertEqual((twins[0].order, twins[0].calls), (["a", "b"], 2))
        leave(twins[0], change_more)
        self.assertEqual((twins[0].order, twins[0].calls), (["a", "b"], 2))
        self.assertEqual(site.calls, 0)


if __name__ == "__main__":
    unittest.main()

"""Call sites: lists of cases that a rule rearranges, and ledgers of what their calls cost."""

from pairahead.errors import CaseThere, InvalidMark, NoCase, TooGreat, Unordered
from pairahead.integers import is_below
from pairahead.orders import ring
from pairahead.pairs import begun, evened, led_on_often
from pairahead.rules import still
from pairahead.turns import Turn

MOST_CASES = 12


class Ledger:
    """A ledger: it counts the calls of a site while the block of its with statement runs."""

    def __init__(self):
        self.cost = 0
        self.calls = 0
        self.closed = False
        self.running = False

    def __enter__(self):
        self.running = not self.closed
        return self

    def __exit__(self, kind, value, trace):
        self.running = False
        self.closed = True


class Site:
    """A call site.

    No list and no dict that it holds is ever changed: each deed makes new ones, so copies and turns can share them.
    """

    def __init__(self, rule, names, marks=()):
        _check_orders(rule)
        for at, name in enumerate(names):
            if name in names[:at]:
                raise CaseThere(name)
        if not marks:
            marks = [0] * len(names)
        for mark in marks:
            _check_mark(rule, mark)
        if len(names) > MOST_CASES:
            raise TooGreat("a site has at most 12 cases")
        self.books = []
        self._begin(rule, {name: (mark, 0, name) for name, mark in zip(names, marks)})

    def _begin(self, rule, cases):
        """Begin with these cases, whose order is the list from the front."""
        self.held_rule = rule
        # For each name its mark, how often it was called since it came, and its target, in the order of coming.
        self.cases = cases
        self.names = list(cases)
        # For each two names in the order of coming their pair.
        self.stands = {
            (name, other): begun(rule, cases[name][0], cases[other][0])
            for at, other in enumerate(self.names)
            for name in self.names[:at]
        }
        self.cost = 0
        self.calls = 0
        self.pairs = len(self.stands)
        self.floor = 0

    @property
    def order(self):
        """The names from the front."""
        return list(self.names)

    @property
    def rule(self):
        """The rule of the site."""
        return self.held_rule

    @rule.setter
    def rule(self, value):
        _check_orders(value)
        self._begin(value, {name: (0, 0, self.cases[name][2]) for name in self.names})

    def __contains__(self, name):
        return name in self.cases

    def __len__(self):
        return len(self.names)

    def __iter__(self):
        return iter(self.names)

    def __getitem__(self, name):
        self._check_there(name)
        return self.cases[name][2]

    def __setitem__(self, name, target):
        if name not in self.cases:
            self.put(name)
        mark, count, _ = self.cases[name]
        cases = dict(self.cases)
        cases[name] = (mark, count, target)
        self.cases = cases

    def call(self, name):
        """Call a case and return its target."""
        self.repeat([name], 1)
        return self.cases[name][2]

    def repeat(self, names, times):
        """Call the names in their order, so many times, and return the sum of the costs."""
        for name in names:
            self._check_there(name)
        led = {}
        cost = 0
        floor = 0
        for both, pair in self.stands.items():
            calls = [both.index(name) for name in names if name in both]
            led[both], paid, added = led_on_often(self.held_rule, pair, calls, times)
            cost += paid
            floor += added
        self.floor += floor
        self.stands = led
        self.names = _ordered(self.cases, led)
        self.cases = {
            name: (mark, count + names.count(name) * times, target)
            for name, (mark, count, target) in self.cases.items()
        }
        self._count(cost, len(names) * times)
        return cost

    def ahead(self, name):
        """Return the number of cases ahead of the case."""
        self._check_there(name)
        return self.names.index(name)

    def pair(self, name, other):
        """Return the name of the one of two cases that is ahead, and the state of their pair."""
        self._check_there(name)
        self._check_there(other)
        both = (name, other) if (name, other) in self.stands else (other, name)
        state, ahead, _ = self.stands[both]
        return both[ahead], state

    def put(self, name, mark=0, target=None):
        """Put a newcomer in; without a target its name is its target."""
        if name in self.cases:
            raise CaseThere(name)
        _check_mark(self.held_rule, mark)
        if len(self.cases) >= MOST_CASES:
            raise TooGreat("a site has at most 12 cases")
        stands = {both: self.stands[both] for both in self.stands}
        for other, (first_mark, count, _) in self.cases.items():
            pair, _, _ = led_on_often(self.held_rule, begun(self.held_rule, first_mark, mark), [0], count)
            stands[(other, name)] = evened(pair)
        cases = dict(self.cases)
        cases[name] = (mark, 0, name if target is None else target)
        self.pairs += len(self.cases)
        self.cases = cases
        self.stands = stands
        self.names = _ordered(cases, stands)

    def drop(self, name):
        """Drop a case."""
        self._check_there(name)
        self.cases = {other: self.cases[other] for other in self.cases if other != name}
        self.stands = {both: self.stands[both] for both in self.stands if name not in both}
        self.names = [other for other in self.names if other != name]

    def copy(self):
        """Return an independent site that is equal to this one, but for its ledgers."""
        # The rule of this site has been checked, which takes long: a short one stands in for it at first.
        twin = Site(still(), [])
        twin.held_rule = self.held_rule
        twin.cases = self.cases
        twin.names = self.names
        twin.stands = self.stands
        twin.cost = self.cost
        twin.calls = self.calls
        twin.pairs = self.pairs
        twin.floor = self.floor
        return twin

    def turn(self):
        """Return a turn of the site, for a with statement."""
        return Turn(self)

    def ledger(self):
        """Return a ledger of the site, for a with statement."""
        book = Ledger()
        self.books = [other for other in self.books if not other.closed] + [book]
        return book

    def _count(self, cost, calls):
        """Count calls and their cost."""
        self.cost += cost
        self.calls += calls
        for book in self.books:
            if book.running:
                book.cost += cost
                book.calls += calls

    def _check_there(self, name):
        if name not in self.cases:
            raise NoCase(name)


def _check_orders(rule):
    found = ring(rule)
    if found is not None:
        marks, calls = found
        raise Unordered(marks, calls)


def _check_mark(rule, mark):
    if not is_below(mark, rule.marks):
        raise InvalidMark(mark)


def _ordered(cases, stands):
    """Return the names in the order that their pairs form."""
    places = {name: 0 for name in cases}
    for both, pair in stands.items():
        behind = both[1 - pair[1]]
        places[behind] += 1
    names = list(cases)
    for name in cases:
        names[places[name]] = name
    return names

"""Rules on pairs of cases, and mixes of rules."""

from pairahead.errors import InvalidMix, InvalidRule, TooGreat
from pairahead.integers import is_below, is_integer, is_positive, read_state
from pairahead.tables import MOST_ROWS, least_form, marked_rows, power_rows, power_starts

MOST_MARKS = 4
PLAIN_STARTS = (0,)
MARKS_OF_STARTS = {1: 1, 4: 2, 9: 3, 16: 4}
FALLS_OF_WORD = {"fall": True, "stay": False}
GOES_OF_WORD = {"go": True, "stay": False}
MOVES = ("front", "back", "keep")


class Rule:
    """A rule: a table for a pair of cases that tells which of them is ahead after each call."""

    def __init__(self, rows, starts=(0,)):
        self.rows = tuple([tuple(row) for row in rows])
        self.starts = tuple(starts)
        _check_table(self.rows, self.starts)
        self.marks = MARKS_OF_STARTS[len(self.starts)]

    @staticmethod
    def read(text):
        """Return the rule with this text."""
        body, bar, tail = text.partition(" | ")
        starts = [read_state(word) for word in tail.split(" ")] if bar else PLAIN_STARTS
        rule = Rule([_read_row(piece) for piece in body.split("; ")], starts)
        # The pieces are read leniently: leading zeros, and the starts of a plain rule, show only here.
        if str(rule) != text:
            raise InvalidRule("the text is not written as the text of its rule")
        return rule

    def step(self, state, behind):
        """Return the next state after a call, and whether the two cases change places."""
        next_ahead, falls, next_behind, goes = self.rows[state]
        if behind:
            return next_behind, goes
        return next_ahead, falls

    def least(self):
        """Return the least form of the rule."""
        rows, starts = least_form(self.rows, self.starts)
        return Rule(rows, starts)

    def __len__(self):
        return len(self.rows)

    def __iter__(self):
        return iter(self.rows)

    def __str__(self):
        return f"{_rows_text(self.rows)}{_starts_text(self.starts)}"

    def __eq__(self, other):
        if not isinstance(other, Rule):
            return NotImplemented
        return least_form(self.rows, self.starts) == least_form(other.rows, other.starts)

    def __ne__(self, other):
        if not isinstance(other, Rule):
            return NotImplemented
        return least_form(self.rows, self.starts) != least_form(other.rows, other.starts)

    def __pow__(self, other):
        if not is_integer(other):
            return NotImplemented
        if self.marks * other > MOST_MARKS:
            raise TooGreat("the power of the rule would have more than 4 marks")
        if len(self.rows) * other * other > MOST_ROWS:
            raise TooGreat("the power of the rule would have more than 48 states")
        rows = power_rows(self.rows, other)
        starts = power_starts(self.starts, self.marks, other)
        return Rule(rows, starts).least()

    def __add__(self, other):
        return Mix([(1, self)]) + other

    def __mul__(self, other):
        return Mix([(1, self)]) * other

    def __rmul__(self, other):
        return self * other


class Mix:
    """A mix: parts, each of a weight and a rule."""

    def __init__(self, parts):
        self.parts = tuple([tuple(part) for part in parts])
        if len(self.parts) == 0:
            raise InvalidMix("a mix has at least one part")
        if not all([is_positive(part[0]) for part in self.parts]):
            raise InvalidMix("a weight of a mix is a positive integer")

    def __len__(self):
        return len(self.parts)

    def __add__(self, other):
        if isinstance(other, Rule):
            return Mix(self.parts + ((1, other),))
        if isinstance(other, Mix):
            return Mix(self.parts + other.parts)
        return NotImplemented

    def __mul__(self, other):
        if not is_positive(other):
            raise InvalidMix("a mix is multiplied by a positive integer")
        return Mix([(weight * other, rule) for weight, rule in self.parts])

    def __rmul__(self, other):
        return self * other


def front():
    """Return the rule under which a called case goes ahead of all others."""
    return Rule.read("0 stay 0 go")


def still():
    """Return the rule under which nothing ever changes."""
    return Rule.read("0 stay 0 stay")


def late():
    """Return the rule under which a case goes ahead if one of the two calls of the pair before was its own."""
    return Rule.read("0 stay 1 stay; 2 stay 0 go; 0 stay 2 go")


def marked(rows):
    """Return the marked rule of rows of a next state and of one of the words front, back and keep."""
    table = [tuple(row) for row in rows]
    if not 1 <= len(table) <= MOST_MARKS:
        raise InvalidRule("a marked rule has 1 to 4 rows")
    if not all([_is_marked_row(row, len(table)) for row in table]):
        raise InvalidRule("a row of a marked rule has a next state and one of the words front, back and keep")
    # The pair of the states p and q has the number p * len(table) + q, as the start of the marks p and q.
    return Rule(marked_rows(table), list(range(len(table) * len(table)))).least()


def parting(first, second):
    """Return the parting sequence of two rules with equally many marks, or None if they are alike."""
    if first == second:
        return None
    waiting = [(at, (), first.starts[at], second.starts[at], False) for at in range(len(first.starts))]
    seen = {}
    done = 0
    # All that waits is in the order of the lengths, then the marks, then the calls: the first find is the least.
    while done < len(waiting):
        start, calls, one, two, swapped = waiting[done]
        done += 1
        if (one, two, swapped) in seen:
            continue
        seen[(one, two, swapped)] = True
        for call in (0, 1):
            behind = (call == 1) != swapped
            next_one, change_one = first.step(one, behind)
            next_two, change_two = second.step(two, behind)
            if change_one != change_two:
                return start // first.marks, start % first.marks, calls + (call,)
            waiting.append((start, calls + (call,), next_one, next_two, swapped != change_one))
    return None


def _check_table(rows, starts):
    """Raise InvalidRule unless these are the rows and the starts of a rule."""
    if not 1 <= len(rows) <= MOST_ROWS:
        raise InvalidRule("a rule has 1 to 48 rows")
    if not all([_is_row(row, len(rows)) for row in rows]):
        raise InvalidRule("a row has two states, each with a boolean behind it")
    if len(starts) not in MARKS_OF_STARTS:
        raise InvalidRule("a rule has 1, 4, 9 or 16 starts")
    if not all([is_below(state, len(rows)) for state in starts]):
        raise InvalidRule("a start is a state")


def _is_row(row, count):
    if len(row) != 4:
        return False
    next_ahead, falls, next_behind, goes = row
    if not is_below(next_ahead, count) or not is_below(next_behind, count):
        return False
    return isinstance(falls, bool) and isinstance(goes, bool)


def _is_marked_row(row, count):
    return len(row) == 2 and is_below(row[0], count) and row[1] in MOVES


def _read_row(piece):
    """Return the row that a piece of a text stands for; None stands for a word that is wrong."""
    words = piece.split(" ")
    if len(words) != 4:
        raise InvalidRule("a row is written as four words")
    falls = FALLS_OF_WORD.get(words[1])
    goes = GOES_OF_WORD.get(words[3])
    return read_state(words[0]), falls, read_state(words[2]), goes


def _rows_text(rows):
    return "; ".join([_row_text(row) for row in rows])


def _row_text(row):
    next_ahead, falls, next_behind, goes = row
    first = "fall" if falls else "stay"
    second = "go" if goes else "stay"
    return f"{next_ahead} {first} {next_behind} {second}"


def _starts_text(starts):
    """Return what follows the rows in a text: nothing for a plain rule."""
    if starts == PLAIN_STARTS:
        return ""
    words = " ".join([str(state) for state in starts])
    return f" | {words}"

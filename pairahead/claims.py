"""Claims about which of two cases is ahead after their calls."""

from pairahead.errors import InvalidClaim
from pairahead.integers import is_below, read_state
from pairahead.readings import Found, joined, state_after
from pairahead.searches import way_to
from pairahead.tables import MOST_ROWS, least_form

# The number of a verdict has the bit 1 if the case called last may be ahead, and the bit 2 if the other one may.
VERDICTS = ("none", "last", "other", "free")
LAST = 1
OTHER = 2


class Claim:
    """A claim: a verdict for each sequence of at least one call."""

    def __init__(self, rows):
        if isinstance(rows, Found):
            self.rows = rows.rows
        else:
            self.rows = tuple([tuple(row) for row in rows])
            _check_rows(self.rows)

    @staticmethod
    def read(text):
        """Return the claim with this text."""
        claim = Claim([_read_row(piece) for piece in text.split("; ")])
        # The states are read leniently: leading zeros show only here.
        if str(claim) != text:
            raise InvalidClaim("the text is not written as the text of its claim")
        return claim

    def verdict(self, calls):
        """Return the verdict after at least one call."""
        return self.rows[state_after(self.rows, calls)][2]

    def broken(self, rule):
        """Return the breaking sequence of a rule, two marks and the calls, or None if it does not break the claim."""
        # An entry has the entry before it, the call from there, the state and the case ahead under the rule, and the
        # state of the claim.
        entries = [(None, None, state, 0, None) for state in rule.starts]
        seen = {}
        done = 0
        # The entries are in the order of their lengths, then of the marks, then of the calls: the first find is the
        # least.
        while done < len(entries):
            for call in (0, 1):
                entry = _next_entry(self.rows, rule.rows, entries[done], done, call)
                if not _is_allowed(self.rows, entry):
                    start, calls = way_to(entries, done)
                    return start // rule.marks, start % rule.marks, calls + (call,)
                if entry[1:] not in seen:
                    seen[entry[1:]] = True
                    entries.append(entry)
            done += 1
        return None

    def __str__(self):
        return "; ".join([f"{same} {other} {verdict}" for same, other, verdict in self.rows])

    def __contains__(self, rule):
        return self.broken(rule) is None

    def __and__(self, other):
        if not isinstance(other, Claim):
            return NotImplemented
        pairs, rows = joined(self.rows, other.rows, False)
        numbers = [_number(self.rows, one) & _number(other.rows, two) for one, two in pairs]
        return Claim(Found(_least_rows(rows, numbers)))

    def __or__(self, other):
        if not isinstance(other, Claim):
            return NotImplemented
        pairs, rows = joined(self.rows, other.rows, False)
        numbers = [_number(self.rows, one) | _number(other.rows, two) for one, two in pairs]
        return Claim(Found(_least_rows(rows, numbers)))

    def __invert__(self):
        numbers = [_number(self.rows, state) for state in range(len(self.rows))]
        return Claim(Found(_least_rows(self.rows, [(LAST | OTHER) - number for number in numbers])))


def _check_rows(rows):
    """Raise InvalidClaim unless these are the rows of a claim."""
    if not 1 <= len(rows) <= MOST_ROWS:
        raise InvalidClaim("a claim has 1 to 48 rows")
    if not all([_is_row(row, len(rows)) for row in rows]):
        raise InvalidClaim("a row has two states and one of the words last, other, free and none")


def _is_row(row, count):
    return len(row) == 3 and is_below(row[0], count) and is_below(row[1], count) and row[2] in VERDICTS


def _read_row(piece):
    """Return the row that a piece of a text stands for; None stands for a state that is wrong."""
    words = piece.split(" ")
    return [read_state(word) for word in words[:2]] + words[2:]


def _number(rows, state):
    """Return the number of the verdict of a state."""
    return VERDICTS.index(rows[state][2])


def _least_rows(rows, numbers):
    """Return the rows of the least claim that leads its states on as these rows do, with these verdicts."""
    table = [(row[0], number, row[1], number) for row, number in zip(rows, numbers)]
    least, _ = least_form(table, [0])
    return [(same, other, VERDICTS[number]) for same, number, other, _ in least]


def _next_entry(claim_rows, rule_rows, entry, at, call):
    """Return the entry of a search that follows the entry with the number `at` by a call."""
    _, before, state, ahead, claimed = entry
    next_ahead, falls, next_behind, goes = rule_rows[state]
    if call == ahead:
        state, changes = next_ahead, falls
    else:
        state, changes = next_behind, goes
    if before is None:
        claimed = 0
    else:
        claimed = claim_rows[claimed][0 if call == before else 1]
    return at, call, state, (1 - ahead if changes else ahead), claimed


def _is_allowed(claim_rows, entry):
    """Tell whether the verdict allows the case that is ahead."""
    _, call, _, ahead, claimed = entry
    return _number(claim_rows, claimed) & (LAST if ahead == call else OTHER) != 0

"""Sets of sequences of calls of two cases."""

from pairahead.errors import InvalidRows
from pairahead.integers import is_below, read_state
from pairahead.readings import Found, joined, state_after
from pairahead.tables import MOST_ROWS, least_form


class RowSet:
    """A row set: a sequence of calls belongs to it if it can be read without meeting None."""

    def __init__(self, rows):
        if isinstance(rows, Found):
            self.rows = rows.rows
        else:
            self.rows = tuple([tuple(row) for row in rows])
            _check_rows(self.rows)

    @staticmethod
    def read(text):
        """Return the row set with this text."""
        rows = RowSet([[read_state(word) for word in piece.split(" ")] for piece in text.split("; ")])
        # Every word that is no state is read as if it were `-`, so what was wrong shows only here.
        if str(rows) != text:
            raise InvalidRows("the text is not written as the text of its row set")
        return rows

    @staticmethod
    def runs(least, most):
        """Return the set of the sequences whose runs have at most `most` calls, and those that end at least `least`."""
        # The state of a run is its length less 1.
        return RowSet(Found([
            (length if length < most else None, 0 if length >= least else None)
            for length in range(1, most + 1)
        ]))

    def least(self):
        """Return the least form of the set."""
        return RowSet(Found(_least_rows(self.rows)))

    def __str__(self):
        return "; ".join([f"{_word(same)} {_word(other)}" for same, other in self.rows])

    def __contains__(self, calls):
        return state_after(self.rows, calls) is not None

    def __and__(self, other):
        if not isinstance(other, RowSet):
            return NotImplemented
        _, rows = joined(self.rows, other.rows, False)
        return RowSet(Found(_least_rows(rows)))

    def __or__(self, other):
        if not isinstance(other, RowSet):
            return NotImplemented
        _, rows = joined(self.rows, other.rows, True)
        return RowSet(Found(_least_rows(rows)))

    def __eq__(self, other):
        if not isinstance(other, RowSet):
            return NotImplemented
        return _is_within(self, other) and _is_within(other, self)

    def __ne__(self, other):
        if not isinstance(other, RowSet):
            return NotImplemented
        return not _is_within(self, other) or not _is_within(other, self)

    def __le__(self, other):
        if not isinstance(other, RowSet):
            return NotImplemented
        return _is_within(self, other)

    def __ge__(self, other):
        if not isinstance(other, RowSet):
            return NotImplemented
        return _is_within(other, self)

    def __lt__(self, other):
        if not isinstance(other, RowSet):
            return NotImplemented
        return _is_within(self, other) and not _is_within(other, self)

    def __gt__(self, other):
        if not isinstance(other, RowSet):
            return NotImplemented
        return _is_within(other, self) and not _is_within(self, other)


def _check_rows(rows):
    """Raise InvalidRows unless these are the rows of a row set."""
    if not 1 <= len(rows) <= MOST_ROWS:
        raise InvalidRows("a row set has 1 to 48 rows")
    if not all([_is_row(row, len(rows)) for row in rows]):
        raise InvalidRows("a row has two entries, each a state or None")


def _is_row(row, count):
    return len(row) == 2 and all([entry is None or is_below(entry, count) for entry in row])


def _word(entry):
    return "-" if entry is None else str(entry)


def _is_within(first, second):
    """Tell whether every sequence of the first set is in the second one."""
    pairs, _ = joined(first.rows, second.rows, True)
    return all([two is not None for _, two in pairs])


def _least_rows(rows):
    """Return the rows of the least form."""
    # Where a call ends the table, it stays in its state and says so.
    table = [
        (state if same is None else same, same is None, state if other is None else other, other is None)
        for state, (same, other) in enumerate(rows)
    ]
    least, _ = least_form(table, [0])
    return [
        (None if ends_same else same, None if ends_other else other)
        for same, ends_same, other, ends_other in least
    ]

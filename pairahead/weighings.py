"""The best weights of some rules against some loops, found exactly by the simplex method.

A loop costs each rule something and the rival more than 0. With weights x and the value v, the loops ask that the sum
of (cost of the rule + cost of the rival) * x over the rules is at most the cost of the rival, where the sum of all x
is 1 / (v + 1). So the least value has the greatest sum. The cost of the rival is added so that no side of this is 0.
"""

from math import gcd, lcm

from pairahead.ratios import Ratio


def best_weights(loops):
    """Return the least value, the weights of the rules for it, and the times of the loops that allow no lesser one.

    A loop is a pair of a list of what it costs each rule and of what it costs the rival, in integers.
    """
    table = Simplex(loops)
    while table.improves():
        pass
    many = len(loops[0][0])
    value = Ratio(1).over(table.best()) - 1
    weights = [table.worth(rule) for rule in range(many)]
    times = [table.price(many + at) for at in range(len(loops))]
    return value, _integers(weights), _integers(times)


class Simplex:
    """A table of the simplex method.

    The things are the rules and, behind them, what the loops have left over. Those at the rows are worth the last
    entry of their row, those at the columns are worth 0. The last row is that of the sum that is to be the greatest.
    """

    def __init__(self, loops):
        many = len(loops[0][0])
        self.at_columns = list(range(many))
        self.at_rows = list(range(many, many + len(loops)))
        self.rows = [[Ratio(cost + rival) for cost in costs] + [Ratio(rival)] for costs, rival in loops]
        self.rows.append([Ratio(-1)] * many + [Ratio(0)])

    def improves(self):
        """Take the next step towards the greatest sum, and tell whether there was one."""
        column = self._column()
        if column is None:
            return False
        self._exchange(self._row(column), column)
        return True

    def best(self):
        """Return the sum."""
        return self.rows[-1][-1]

    def worth(self, thing):
        """Return what the thing is worth."""
        if thing in self.at_rows:
            return self.rows[self.at_rows.index(thing)][-1]
        return Ratio(0)

    def price(self, thing):
        """Return how much the sum would lose for each 1 that the thing is worth."""
        if thing in self.at_columns:
            return self.rows[-1][self.at_columns.index(thing)]
        return Ratio(0)

    def _column(self):
        """Return the column of the first thing that would raise the sum, or None."""
        # Always the first one: otherwise the steps could go round for ever where several are equal.
        found = None
        for column, thing in enumerate(self.at_columns):
            if self.rows[-1][column] < 0 and (found is None or thing < self.at_columns[found]):
                found = column
        return found

    def _row(self, column):
        """Return the row that limits the thing of this column the most, the first of these things if there are more."""
        found = None
        least = None
        for row, thing in enumerate(self.at_rows):
            if self.rows[row][column] > 0:
                limit = self.rows[row][-1].over(self.rows[row][column])
                if found is None or limit < least or (limit == least and thing < self.at_rows[found]):
                    found, least = row, limit
        return found

    def _exchange(self, row, column):
        """Exchange the things of a row and a column."""
        pivot = self.rows[row][column]
        turned = [entry.over(pivot) for entry in self.rows[row]]
        turned[column] = Ratio(1).over(pivot)
        rows = []
        for at, entries in enumerate(self.rows):
            factor = entries[column]
            after = [entry - factor * part for entry, part in zip(entries, turned)]
            after[column] = -factor.over(pivot)
            rows.append(turned if at == row else after)
        self.rows = rows
        self.at_rows[row], self.at_columns[column] = self.at_columns[column], self.at_rows[row]


def _integers(ratios):
    """Return the least integers in the same proportions; one of the ratios is not 0."""
    scale = 1
    for ratio in ratios:
        scale = lcm(scale, ratio.bottom)
    whole = [ratio.top * (scale // ratio.bottom) for ratio in ratios]
    shared = 0
    for number in whole:
        shared = gcd(shared, number)
    return [number // shared for number in whole]

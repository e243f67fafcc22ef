"""Exact fractions."""

from math import gcd

from pairahead.integers import is_integer


class Ratio:
    """A fraction of two integers, in lowest terms with a positive denominator."""

    def __init__(self, top, bottom=1):
        if bottom == 0:
            raise ZeroDivisionError("the denominator of a ratio is 0")
        shared = gcd(top, bottom)
        if bottom < 0:
            shared = -shared
        self.top = top // shared
        self.bottom = bottom // shared

    def __add__(self, other):
        if not _is_number(other):
            return NotImplemented
        top = self.top * _bottom(other) + _top(other) * self.bottom
        return Ratio(top, self.bottom * _bottom(other))

    def __radd__(self, other):
        return self + other

    def __sub__(self, other):
        if not _is_number(other):
            return NotImplemented
        return Ratio(_gap(self, other), self.bottom * _bottom(other))

    def __rsub__(self, other):
        return -self + other

    def __mul__(self, other):
        if not _is_number(other):
            return NotImplemented
        return Ratio(self.top * _top(other), self.bottom * _bottom(other))

    def __rmul__(self, other):
        return self * other

    def __floordiv__(self, other):
        if not _is_number(other):
            return NotImplemented
        return (self.top * _bottom(other)) // (self.bottom * _top(other))

    def __mod__(self, other):
        if not _is_number(other):
            return NotImplemented
        return self - (self // other) * other

    def over(self, other):
        """Return the exact quotient."""
        return Ratio(self.top * _bottom(other), self.bottom * _top(other))

    def __neg__(self):
        return Ratio(-self.top, self.bottom)

    def __abs__(self):
        return Ratio(abs(self.top), self.bottom)

    def __eq__(self, other):
        if not _is_number(other):
            return NotImplemented
        return _gap(self, other) == 0

    def __ne__(self, other):
        if not _is_number(other):
            return NotImplemented
        return _gap(self, other) != 0

    def __lt__(self, other):
        if not _is_number(other):
            return NotImplemented
        return _gap(self, other) < 0

    def __le__(self, other):
        if not _is_number(other):
            return NotImplemented
        return _gap(self, other) <= 0

    def __gt__(self, other):
        if not _is_number(other):
            return NotImplemented
        return _gap(self, other) > 0

    def __ge__(self, other):
        if not _is_number(other):
            return NotImplemented
        return _gap(self, other) >= 0

    def __bool__(self):
        return bool(self.top)

    def __str__(self):
        if self.bottom == 1:
            return str(self.top)
        return f"{self.top}/{self.bottom}"


def _is_number(value):
    return isinstance(value, Ratio) or is_integer(value)


def _top(value):
    return value.top if isinstance(value, Ratio) else value


def _bottom(value):
    return value.bottom if isinstance(value, Ratio) else 1


def _gap(first, second):
    """Return the numerator of first - second over the product of the denominators."""
    return first.top * _bottom(second) - _top(second) * first.bottom

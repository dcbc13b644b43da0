"""Fractions in least form."""

from math import gcd, lcm

from surelyends.errors import InvalidFraction, InvalidNumber, InvalidOperation
from surelyends.numbers.integers import is_at_least, is_between, is_plain_integer

MAX_POWER = 64


class Fraction:
    """A top divided by a bottom, without a common divisor; it never changes."""

    def __init__(self, top, bottom=1):
        if not is_plain_integer(top) or not is_plain_integer(bottom) or bottom == 0:
            raise InvalidFraction("a fraction has an integer as its top, and one other than 0 as its bottom")
        shared = gcd(top, bottom)
        if bottom < 0:
            shared = -shared
        self._top = top // shared
        self._bottom = bottom // shared

    @property
    def top(self):
        return self._top

    @property
    def bottom(self):
        return self._bottom

    def __add__(self, other):
        more = as_fraction(other)
        return Fraction(self.top * more.bottom + more.top * self.bottom, self.bottom * more.bottom)

    def __radd__(self, other):
        return as_fraction(other) + self

    def __sub__(self, other):
        less = as_fraction(other)
        return Fraction(self.top * less.bottom - less.top * self.bottom, self.bottom * less.bottom)

    def __rsub__(self, other):
        return as_fraction(other) - self

    def __mul__(self, other):
        factor = as_fraction(other)
        return Fraction(self.top * factor.top, self.bottom * factor.bottom)

    def __rmul__(self, other):
        return as_fraction(other) * self

    def __neg__(self):
        return Fraction(-self.top, self.bottom)

    def __abs__(self):
        return Fraction(abs(self.top), self.bottom)

    def __eq__(self, other):
        if isinstance(other, Fraction):
            return self.top == other.top and self.bottom == other.bottom
        return is_plain_integer(other) and self.bottom == 1 and self.top == other

    def __str__(self):
        if self.bottom == 1:
            return str(self.top)
        return f"{self.top}/{self.bottom}"

    def by(self, other):
        """The quotient."""
        divisor = as_fraction(other)
        if divisor.top == 0:
            raise InvalidOperation("nothing is divided by 0")
        return Fraction(self.top * divisor.bottom, self.bottom * divisor.top)

    def is_less(self, other):
        """Whether this fraction is less than the other one."""
        compared = as_fraction(other)
        return self.top * compared.bottom < compared.top * self.bottom

    def power(self, many):
        """The product of so many of this fraction."""
        if not is_between(many, 0, MAX_POWER):
            raise InvalidNumber(many)
        top = 1
        bottom = 1
        for _ in range(many):
            top = top * self.top
            bottom = bottom * self.bottom
        return Fraction(top, bottom)


def is_fraction(value):
    """Whether the value is a Fraction or an integer."""
    return isinstance(value, Fraction) or is_plain_integer(value)


def as_fraction(value):
    """The Fraction that is equal to a fraction."""
    return value if isinstance(value, Fraction) else Fraction(value)


def is_fractions(value):
    """Whether the value is a tuple of fractions."""
    return isinstance(value, tuple) and all([is_fraction(one) for one in value])


def over_one_bottom(fractions):
    """A list of tops and the least bottom that all of these fractions can have."""
    parts = [as_fraction(one) for one in fractions]
    bottom = 1
    for part in parts:
        bottom = lcm(bottom, part.bottom)
    return [part.top * (bottom // part.bottom) for part in parts], bottom


def least_of(fractions):
    """The least fraction of a tuple."""
    parts = _some_fractions(fractions)
    least = parts[0]
    for part in parts:
        if part.is_less(least):
            least = part
    return least


def greatest_of(fractions):
    """The greatest fraction of a tuple."""
    parts = _some_fractions(fractions)
    greatest = parts[0]
    for part in parts:
        if greatest.is_less(part):
            greatest = part
    return greatest


def total_of(fractions):
    """The sum of a tuple of fractions, 0 for none."""
    if not is_fractions(fractions):
        raise InvalidFraction("not a tuple of fractions")
    tops, bottom = over_one_bottom(fractions)
    return Fraction(sum(tops), bottom)


def _some_fractions(fractions):
    if not is_fractions(fractions):
        raise InvalidFraction("not a tuple of fractions")
    if len(fractions) == 0:
        raise InvalidOperation("there are no fractions")
    return [as_fraction(one) for one in fractions]


def rounded_down(fraction, bottom):
    """The greatest multiple of 1 / bottom that is at most the fraction."""
    part = _to_be_rounded(fraction, bottom)
    return Fraction(part.top * bottom // part.bottom, bottom)


def rounded_up(fraction, bottom):
    """The least multiple of 1 / bottom that is at least the fraction."""
    part = _to_be_rounded(fraction, bottom)
    return Fraction(-(-part.top * bottom // part.bottom), bottom)


def _to_be_rounded(fraction, bottom):
    part = as_fraction(fraction)
    if not is_at_least(bottom, 1):
        raise InvalidNumber(bottom)
    return part

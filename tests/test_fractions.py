import fractions
import math
import operator
import random
import unittest

from helpers import STRANGE, as_own, as_python, is_integer, raised, without_fractions
from surelyends.errors import InvalidFraction, InvalidNumber, InvalidOperation
from surelyends.numbers.fractions import (
    MAX_POWER,
    Fraction,
    greatest_of,
    is_fraction,
    least_of,
    rounded_down,
    rounded_up,
    total_of,
)

NOT_FRACTIONS = without_fractions()
NOT_INTEGERS = [value for value in STRANGE if not is_integer(value)]


class FractionsTest(unittest.TestCase):
    def setUp(self):
        self.draw = random.Random(11)

    def drawn_integer(self):
        digits = self.draw.choice((1, 1, 2, 5, 30, 75, 200))
        return self.draw.randint(-(10 ** digits), 10 ** digits)

    def drawn(self):
        return Fraction(self.drawn_integer(), self.drawn_integer() or 1)

    def assert_is(self, one, expected):
        self.assertIs(type(one), Fraction)
        expected = fractions.Fraction(expected)
        self.assertEqual((one.top, one.bottom), (expected.numerator, expected.denominator))
        self.assertIs(type(one.top), int)
        self.assertIs(type(one.bottom), int)

    def test_least_form(self):
        self.assert_is(Fraction(6, -4), fractions.Fraction(-3, 2))
        self.assert_is(Fraction(-6, -4), fractions.Fraction(3, 2))
        self.assert_is(Fraction(0, -7), 0)
        self.assert_is(Fraction(5), 5)
        self.assert_is(Fraction(-5), -5)
        self.assert_is(Fraction(top=4, bottom=6), fractions.Fraction(2, 3))
        for _ in range(500):
            top, bottom, shared = self.drawn_integer(), self.drawn_integer() or 3, self.drawn_integer() or 2
            one = Fraction(top * shared, bottom * shared)
            self.assert_is(one, fractions.Fraction(top, bottom))
            self.assertEqual(math.gcd(one.top, one.bottom), 1)
            self.assertGreaterEqual(one.bottom, 1)

    def test_wrong_tops_and_bottoms(self):
        for value in NOT_INTEGERS:
            raised(InvalidFraction, Fraction, value)
            raised(InvalidFraction, Fraction, value, 2)
            raised(InvalidFraction, Fraction, 1, value)
            raised(InvalidFraction, Fraction, value, 0)
        raised(InvalidFraction, Fraction, 1, 0)
        raised(InvalidFraction, Fraction, 0, 0)

    def test_equal(self):
        self.assertTrue(Fraction(2, 4) == Fraction(1, 2))
        self.assertTrue(Fraction(4, 2) == 2 and 2 == Fraction(4, 2))
        self.assertFalse(Fraction(4, 2) != 2)
        self.assertTrue(Fraction(1, 2) != 1 and Fraction(1, 2) != 0)
        self.assertFalse(Fraction(1, 2) == Fraction(1, 3))
        self.assertFalse(Fraction(1, 2) == Fraction(3, 2))
        for value in (True, False, "1", "1/2", (1,), (1, 2), None, [], {}, "", STRANGE):
            for one in (Fraction(1), Fraction(0), Fraction(1, 2)):
                self.assertIs(one == value, False)
                self.assertIs(value == one, False)
                self.assertIs(one != value, True)
        for value in STRANGE:
            self.assertIn(Fraction(22, 7) == value, (False,))

    def test_text(self):
        for one, text in ((Fraction(3, 4), "3/4"), (Fraction(-3, 4), "-3/4"), (Fraction(6, 2), "3"), (Fraction(0), "0"),
                          (Fraction(-4, 2), "-2"), (Fraction(3, -4), "-3/4")):
            self.assertEqual(str(one), text)
        long = 10 ** 3999 + 1
        self.assertEqual(str(Fraction(-long, 10 ** 3999)), f"-1{'0' * 3998}1/1{'0' * 3999}")

    def test_sums_and_products(self):
        for _ in range(400):
            one, other, number = self.drawn(), self.drawn(), self.drawn_integer()
            first, second = as_python(one), as_python(other)
            for sign in (operator.add, operator.sub, operator.mul):
                self.assert_is(sign(one, other), sign(first, second))
                self.assert_is(sign(one, number), sign(first, number))
                self.assert_is(sign(number, one), sign(number, first))
            self.assert_is(-one, -first)
            self.assert_is(abs(one), abs(first))
            self.assertIs(one.is_less(other), first < second)
            self.assertIs(one.is_less(number), first < number)
            if second:
                self.assert_is(one.by(other), first / second)
            if number:
                self.assert_is(one.by(number), first / number)
            self.assert_is(one, first)
            self.assert_is(other, second)

    def test_nothing_is_less_than_itself(self):
        self.assertIs(Fraction(1, 2).is_less(Fraction(2, 4)), False)
        self.assertIs(Fraction(3).is_less(3), False)
        self.assertIs(Fraction(-1, 2).is_less(Fraction(-1, 3)), True)
        self.assertIs(Fraction(-1, 2).is_less(-1), False)

    def test_signs_with_no_fraction(self):
        one = Fraction(1, 2)
        for value in NOT_FRACTIONS:
            for sign in (operator.add, operator.sub, operator.mul):
                raised(InvalidFraction, sign, one, value)
                raised(InvalidFraction, sign, value, one)
            raised(InvalidFraction, one.by, value)
            raised(InvalidFraction, one.is_less, value)

    def test_by_nothing(self):
        for zero in (0, Fraction(0), Fraction(0, -3)):
            raised(InvalidOperation, Fraction(1, 2).by, zero)
            raised(InvalidOperation, Fraction(0).by, zero)

    def test_power(self):
        self.assertEqual(MAX_POWER, 64)
        for one in (Fraction(0), Fraction(-2, 3), Fraction(5), Fraction(7, 10 ** 80)):
            for many in range(65):
                self.assert_is(one.power(many), as_python(one) ** many)
        for value in NOT_INTEGERS + [-1, 65, 10 ** 999]:
            error = raised(InvalidNumber, Fraction(1, 2).power, value)
            self.assertIs(error.value, value)

    def test_a_fraction_never_changes(self):
        one = Fraction(6, 4)
        for name in ("top", "bottom"):
            with self.assertRaises(AttributeError):
                setattr(one, name, 5)
        same = one
        same += 1
        same *= 2
        same -= Fraction(1, 2)
        self.assert_is(one, fractions.Fraction(3, 2))
        self.assert_is(same, fractions.Fraction(9, 2))

    def test_it_cannot_be_iterated(self):
        with self.assertRaises(TypeError):
            iter(Fraction(1, 2))
        with self.assertRaises(TypeError):
            tuple(Fraction(1, 2))

    def test_is_fraction(self):
        for value in STRANGE:
            self.assertIs(is_fraction(value), isinstance(value, Fraction) or is_integer(value))
        for value in (0, -5, 10 ** 999, Fraction(1, 2), Fraction(3)):
            self.assertIs(is_fraction(value), True)
        for value in (True, False, None, "1", "1/2", (1, 2), [1]):
            self.assertIs(is_fraction(value), False)

    def test_least_greatest_total(self):
        for _ in range(200):
            passed = tuple(self.draw.choice((self.drawn(), self.drawn_integer()))
                           for _ in range(self.draw.randint(1, 8)))
            known = [as_python(value) for value in passed]
            self.assert_is(least_of(passed), min(known))
            self.assert_is(greatest_of(passed), max(known))
            self.assert_is(total_of(passed), sum(known))
            self.assertEqual([as_python(value) for value in passed], known)
        self.assert_is(total_of(()), 0)
        self.assert_is(least_of((3, 2)), 2)
        self.assert_is(greatest_of((Fraction(-1, 2), -1)), fractions.Fraction(-1, 2))

    def test_wrong_tuples(self):
        wrong = [value for value in STRANGE
                 if not isinstance(value, tuple) or not all(is_fraction(one) for one in value)]
        wrong += [(1, value) for value in NOT_FRACTIONS] + [[1, 2], {1: 2}, [], (1, True)]
        for value in wrong:
            for call in (least_of, greatest_of, total_of):
                raised(InvalidFraction, call, value)
        raised(InvalidOperation, least_of, ())
        raised(InvalidOperation, greatest_of, ())

    def test_rounded(self):
        for _ in range(400):
            value = self.draw.choice((self.drawn(), self.drawn_integer()))
            bottom = abs(self.drawn_integer()) + 1
            known = as_python(value)
            self.assert_is(rounded_down(value, bottom), fractions.Fraction(math.floor(known * bottom), bottom))
            self.assert_is(rounded_up(value, bottom), fractions.Fraction(math.ceil(known * bottom), bottom))
        self.assert_is(rounded_down(Fraction(-7, 9), 4), -1)
        self.assert_is(rounded_up(Fraction(-7, 9), 4), fractions.Fraction(-3, 4))
        self.assert_is(rounded_down(Fraction(-3, 4), 4), fractions.Fraction(-3, 4))
        self.assert_is(rounded_up(as_own(-2), 1), -2)

    def test_wrong_rounding(self):
        for call in (rounded_down, rounded_up):
            for value in NOT_FRACTIONS:
                raised(InvalidFraction, call, value, 4)
                raised(InvalidFraction, call, value, 0)
            for value in NOT_INTEGERS + [0, -1, -(10 ** 999)]:
                error = raised(InvalidNumber, call, Fraction(1, 2), value)
                self.assertIs(error.value, value)


if __name__ == "__main__":
    unittest.main()

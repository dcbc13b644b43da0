import copy
import fractions
import random
import unittest

from helpers import STRANGE, as_own, as_python, raised, without_fractions
from surelyends.errors import InvalidOperation, InvalidRows
from surelyends.numbers.fractions import Fraction, is_fraction
from surelyends.numbers.rows import (
    MAX_ROWS,
    MAX_WIDTH,
    cleared,
    falling,
    fit,
    is_falling,
    is_fit,
    is_rows,
    is_solution,
    mix_of,
    solution,
    times_of,
)

HALF = Fraction(1, 2)
NOT_FRACTIONS = without_fractions()
WORDS = ("solution", "none", "fit", "bar", "falling", "kept")


def known(values):
    return [as_python(value) for value in values]


def product(row, column):
    assert len(row) == len(column)
    return sum((a * b for a, b in zip(known(row), known(column))), fractions.Fraction(0))


def mixed(rows, factors):
    return [product([row[at] for row in rows], factors) for at in range(len(rows[0]))]


def right_solution(rows, totals, pair):
    word, told = pair
    if word == "solution":
        return len(told) == len(rows[0]) and [product(row, told) for row in rows] == known(totals)
    if word == "none":
        return len(told) == len(rows) and not any(mixed(rows, told)) and product(totals, told) == 1
    return False


def right_fit(rows, totals, pair):
    word, told = pair
    if min(known(told), default=-1) < 0:
        return False
    if word == "fit":
        return len(told) == len(rows[0]) and all(
            product(row, told) <= total for row, total in zip(rows, known(totals)))
    if word == "bar":
        return len(told) == len(rows) and min(mixed(rows, told)) >= 0 and product(totals, told) == -1
    return False


def right_falling(rows, pair):
    word, told = pair
    if len(told) != len(rows) or min(known(told)) < 0:
        return False
    if word == "falling":
        return min(known(told)) > 0 and all(product(row, told) < own for row, own in zip(rows, known(told)))
    if word == "kept":
        return max(known(told)) > 0 and all(product(row, told) >= own for row, own in zip(rows, known(told)))
    return False


class RowsTest(unittest.TestCase):
    def setUp(self):
        self.draw = random.Random(23)

    def entry(self, digits=1):
        top = self.draw.randint(-(10 ** digits), 10 ** digits)
        if self.draw.random() < 0.4:
            return top
        return Fraction(top, self.draw.randint(1, 10 ** digits))

    def drawn(self, many=None, width=None, digits=1):
        many = many or self.draw.choice((1, 2, 3, 5, 9))
        width = width or self.draw.choice((1, 2, 3, 4, 6))
        rows = [tuple(self.entry(digits) for _ in range(width)) for _ in range(many)]
        for at in range(many):
            sort = self.draw.random()
            if sort < 0.1:
                rows[at] = (0,) * width
            elif sort < 0.3:
                other, more = self.draw.choice(rows), self.draw.choice(rows)
                factor = self.draw.choice((0, 1, -2, HALF))
                rows[at] = tuple(a + factor * b for a, b in zip(other, more))
            elif sort < 0.4:
                rows[at] = tuple(a if self.draw.random() < 0.5 else 0 for a in rows[at])
        return tuple(rows)

    def totals_for(self, rows, digits=1):
        if self.draw.random() < 0.4:
            return tuple(self.entry(digits) for _ in rows)
        column = [self.draw.choice((0, self.entry(digits))) for _ in rows[0]]
        totals = [as_own(product(row, column)) for row in rows]
        if self.draw.random() < 0.5:
            column = [abs(entry) for entry in column]
            totals = [as_own(product(row, column)) + self.draw.choice((0, 0, 1)) for row in rows]
        if self.draw.random() < 0.3:
            at = self.draw.randrange(len(totals))
            totals[at] = totals[at] + self.draw.choice((-1, 1))
        return tuple(totals)

    def assert_own(self, told):
        self.assertIs(type(told), tuple)
        for one in told:
            self.assertIs(type(one), Fraction)

    def assert_pair(self, pair, words):
        self.assertIs(type(pair), tuple)
        self.assertEqual(len(pair), 2)
        self.assertIn(pair[0], words)
        self.assert_own(pair[1])

    def all_bent(self, pair):
        """Pairs near a pair: one entry bent, another word, another length, another kind of value."""
        word, told = pair
        for at in range(len(told)):
            for change in (1, -1, HALF, Fraction(-1, 10 ** 9), -2 * told[at]):
                yield word, told[:at] + (told[at] + change,) + told[at + 1:]
        for other in WORDS:
            yield other, told
        yield word, told + (0,)
        yield word, told[:-1]
        yield word, tuple(0 * one for one in told)
        yield word, tuple(-1 * one for one in told)
        yield word, tuple(2 * one for one in told)

    def never_right(self, pair):
        word, told = pair
        yield word, list(told)
        yield [word, told]
        yield word, told, ()
        yield (word,)
        yield told
        yield word.upper(), told
        yield True, told
        yield (word, told),
        for value in NOT_FRACTIONS:
            yield word, (value,) + told[1:]
            if not (isinstance(value, tuple) and all(is_fraction(one) for one in value)):
                yield word, value

    def near(self, checker, right, pair, *passed):
        self.assertIs(checker(*passed, pair), True)
        whole = (pair[0], tuple(one.top if one.bottom == 1 else one for one in pair[1]))
        self.assertIs(checker(*passed, whole), True)
        for bent in self.all_bent(pair):
            told = bent[1]
            expected = len(told) > 0 and right(*passed, bent)
            self.assertIs(checker(*passed, bent), expected, (passed, bent))

    def test_limits(self):
        self.assertEqual((MAX_ROWS, MAX_WIDTH), (80, 12))

    def test_is_rows(self):
        for many, width in ((1, 1), (80, 12), (80, 1), (1, 12), (12, 12)):
            rows = ((1,) * width,) * many
            self.assertIs(is_rows(rows), True)
            self.assertIs(is_rows(rows[:-1] + ((HALF,) * width,)), True)
            for value in NOT_FRACTIONS:
                self.assertIs(is_rows(rows[:-1] + ((1,) * (width - 1) + (value,),)), False)
        for many, width in ((81, 12), (80, 13), (1, 13), (81, 1), (0, 1), (1, 0), (5, 0)):
            self.assertIs(is_rows(((1,) * width,) * many), False)
        self.assertIs(is_rows(((1, 2), (3,))), False)
        self.assertIs(is_rows(((1,), (2, 3))), False)
        self.assertIs(is_rows([(1,)]), False)
        self.assertIs(is_rows(([1],)), False)
        self.assertIs(is_rows((1, 2)), False)
        self.assertIs(is_rows(((True,),)), False)
        right = {((1,),), ((1, 2),)}
        for value in STRANGE:
            expected = isinstance(value, tuple) and len(value) > 0 and all(
                isinstance(row, tuple) and len(row) == len(value[0]) > 0 and all(is_fraction(one) for one in row)
                for row in value)
            self.assertIs(is_rows(value), expected, value)
        for value in right:
            self.assertIs(is_rows(value), True)

    def test_times_and_mix(self):
        for _ in range(150):
            rows = self.drawn(digits=self.draw.choice((1, 3, 40)))
            column = tuple(self.entry() for _ in rows[0])
            factors = tuple(self.entry() for _ in rows)
            before = copy.deepcopy((known(column), known(factors), [known(row) for row in rows]))
            times, mix = times_of(rows, column), mix_of(rows, factors)
            self.assert_own(times)
            self.assert_own(mix)
            self.assertEqual(known(times), [product(row, column) for row in rows])
            self.assertEqual(known(mix), mixed(rows, factors))
            self.assertEqual((known(column), known(factors), [known(row) for row in rows]), before)

    def test_wrong_arguments(self):
        rows = ((1, 2), (HALF, 0), (3, 4))
        wrong = [value for value in STRANGE if not is_rows(value)]
        for value in wrong:
            for call in (times_of, mix_of, solution, fit):
                raised(InvalidRows, call, value, (1, 2))
                raised(InvalidRows, call, value, None)
            for call in (is_solution, is_fit):
                raised(InvalidRows, call, value, (1, 2), None)
                raised(InvalidRows, call, value, None, None)
            raised(InvalidRows, cleared, value)
            raised(InvalidRows, falling, value)
            raised(InvalidRows, is_falling, value, None)
        for value in STRANGE:
            is_tuple = isinstance(value, tuple) and all(is_fraction(one) for one in value)
            if not is_tuple or len(value) != 2:
                raised(InvalidRows, times_of, rows, value)
            if not is_tuple or len(value) != 3:
                for call in (mix_of, solution, fit):
                    raised(InvalidRows, call, rows, value)
                for call in (is_solution, is_fit):
                    raised(InvalidRows, call, rows, value, ("none", (1, 1, 1)))
        raised(InvalidRows, times_of, rows, (1, 2, 3))
        raised(InvalidRows, mix_of, rows, (1, 2))
        raised(InvalidRows, solution, rows, (1, 2, True))

    def test_rows_that_cannot_fall(self):
        for rows in (((1, 2),), ((1,), (2,)), ((1, -1), (0, 0)), ((0, 0), (0, Fraction(-1, 9))), ((-1,),)):
            raised(InvalidOperation, falling, rows)
            for value in STRANGE:
                raised(InvalidOperation, is_falling, rows, value)

    def test_checkers_take_any_value(self):
        rows, totals = ((1, 2), (3, 4)), (5, 6)
        for value in STRANGE:
            for told in (value, (value, (1, 1)), ("solution", value), ("fit", value), ("falling", value)):
                self.assertIs(is_solution(rows, totals, told), False)
                self.assertIs(is_fit(rows, totals, told), False)
                self.assertIs(is_falling(rows, told), False)

    def assert_cleared(self, rows):
        form = cleared(rows)
        self.assertIs(type(form), tuple)
        places = []
        for row in form:
            self.assert_own(row)
            self.assertEqual(len(row), len(rows[0]))
            places.append(next(at for at, one in enumerate(row) if one != 0))
            self.assertEqual(row[places[-1]], 1)
        self.assertEqual(places, sorted(set(places)))
        for at, row in enumerate(form):
            self.assertEqual([one == 0 for one in (row[place] for place in places)],
                             [place != places[at] for place in places])
        # The rows are mixes of the form, with the entries at its places as the factors.
        for row in rows:
            factors = [row[place] for place in places]
            self.assertEqual(known(row), mixed(form, factors) if form else [0] * len(row))
        # And as many of the rows are independent as the form has rows.
        self.assertEqual(len(form), self.rank([known(row) for row in rows]))
        return form

    def rank(self, rows):
        many = 0
        rows = [list(row) for row in rows]
        for at in range(len(rows[0])):
            pivot = next((row for row in rows[many:] if row[at]), None)
            if pivot is not None:
                rows.remove(pivot)
                rows.insert(many, pivot)
                for row in rows[many + 1:]:
                    factor = row[at] / pivot[at]
                    row[:] = [a - factor * b for a, b in zip(row, pivot)]
                many += 1
        return many

    def test_cleared(self):
        self.assertEqual(cleared(((0, 0), (0, 0))), ())
        self.assertEqual(cleared(((0,),)), ())
        self.assertEqual(cleared(((5,),)), ((1,),))
        self.assertEqual(cleared(((0, 2, 4), (0, 0, 0), (3, 0, 6))), ((1, 0, 2), (0, 1, 2)))
        for _ in range(150):
            rows = self.drawn(digits=self.draw.choice((1, 1, 30)))
            form = self.assert_cleared(rows)
            if form:
                self.assertEqual(cleared(form), form)
            shuffled = list(rows)
            self.draw.shuffle(shuffled)
            self.assertEqual(cleared(tuple(shuffled)), form)
        for many, width, digits in ((80, 12, 2), (12, 12, 30), (1, 12, 100), (80, 1, 100)):
            self.assert_cleared(self.drawn(many, width, digits))

    def assert_solved(self, rows, totals, near=True):
        pair = solution(rows, totals)
        self.assert_pair(pair, ("solution", "none"))
        self.assertTrue(right_solution(rows, totals, pair))
        if near:
            self.near(is_solution, right_solution, pair, rows, totals)
        return pair[0]

    def assert_fits(self, rows, totals, near=True):
        pair = fit(rows, totals)
        self.assert_pair(pair, ("fit", "bar"))
        self.assertTrue(right_fit(rows, totals, pair))
        if near:
            self.near(is_fit, right_fit, pair, rows, totals)
        return pair[0]

    def assert_falls(self, rows, near=True):
        pair = falling(rows)
        self.assert_pair(pair, ("falling", "kept"))
        self.assertTrue(right_falling(rows, pair))
        if near:
            self.near(is_falling, right_falling, pair, rows)
        return pair[0]

    def test_solutions(self):
        words = []
        for _ in range(200):
            rows = self.drawn()
            words.append(self.assert_solved(rows, self.totals_for(rows)))
        self.assertGreater(words.count("solution"), 30)
        self.assertGreater(words.count("none"), 30)

    def test_fits(self):
        words = []
        for _ in range(200):
            rows = self.drawn()
            words.append(self.assert_fits(rows, self.totals_for(rows)))
        self.assertGreater(words.count("fit"), 30)
        self.assertGreater(words.count("bar"), 30)

    def square(self, width, digits=1):
        share = self.draw.choice((1, 2, width, 3 * width))
        rows = [[abs(self.entry(digits)) * Fraction(1, share) for _ in range(width)] for _ in range(width)]
        return tuple(tuple(0 if self.draw.random() < 0.4 else one for one in row) for row in rows)

    def test_falling(self):
        words = []
        for _ in range(250):
            words.append(self.assert_falls(self.square(self.draw.choice((1, 2, 3, 4, 5)))))
        self.assertGreater(words.count("falling"), 30)
        self.assertGreater(words.count("kept"), 30)
        # On the very edge nothing falls.
        self.assertEqual(falling(((1,),))[0], "kept")
        self.assertEqual(falling(((HALF, HALF), (HALF, HALF)))[0], "kept")
        self.assertEqual(falling(((HALF, HALF), (HALF, Fraction(4, 9))))[0], "falling")
        self.assertEqual(falling(((0, 1), (0, 0)))[0], "falling")
        self.assertEqual(falling(((0, 0, 0), (5, 1, 0), (0, 7, 0)))[0], "kept")

    def test_extremes(self):
        for many, width, digits in ((1, 1, 1), (1, 1, 900), (80, 12, 1), (80, 12, 8), (80, 1, 60), (12, 12, 1),
                                    (12, 12, 25), (1, 12, 200), (5, 5, 100), (80, 12, 2), (3, 3, 500)):
            for _ in range(3):
                rows = self.drawn(many, width, digits)
                totals = self.totals_for(rows, digits)
                self.assert_solved(rows, totals, near=many * width < 30)
                self.assert_fits(rows, totals, near=many * width < 30)
        for width, digits in ((12, 1), (12, 20), (1, 500), (6, 60)):
            for _ in range(3):
                self.assert_falls(self.square(width, digits), near=width < 7)

    def test_checkers_at_extremes(self):
        rows = self.drawn(80, 12, 2)
        column = tuple(abs(self.entry(2)) for _ in range(12))
        totals = times_of(rows, column)
        self.assertIs(is_solution(rows, totals, ("solution", column)), True)
        self.assertIs(is_fit(rows, totals, ("fit", column)), True)
        self.assertEqual((solution(rows, totals)[0], fit(rows, totals)[0]), ("solution", "fit"))
        for at in (0, 40, 79):
            for change in (Fraction(1, 10 ** 50), Fraction(-1, 10 ** 50)):
                bent = totals[:at] + (totals[at] + change,) + totals[at + 1:]
                self.assertIs(is_solution(rows, bent, ("solution", column)), False)
                self.assertIs(is_fit(rows, bent, ("fit", column)), not change.is_less(0))

    def test_known_papers(self):
        rows, totals = ((1, 1), (1, 1), (0, 0)), (1, 3, 0)
        for factors in ((-HALF, HALF, 0), (-HALF, HALF, 77), (Fraction(-1, 2), HALF, Fraction(-5, 3))):
            self.assertIs(is_solution(rows, totals, ("none", factors)), True)
        self.assertIs(is_solution(rows, totals, ("none", (-1, 1, 0))), False)
        self.assertIs(is_solution(rows, (2, 2, 0), ("solution", (5, -3))), True)
        self.assertIs(is_fit(((1, 1), (-1, -1)), (5, -4), ("fit", (HALF, 4))), True)
        self.assertIs(is_fit(((1, 1), (-1, -1)), (5, -4), ("fit", (-HALF, 5))), False)
        self.assertIs(is_fit(((1, 1), (-1, -1)), (3, -4), ("bar", (1, 1))), True)
        self.assertIs(is_fit(((1, 1), (-1, -1)), (3, -4), ("bar", (2, 2))), False)
        self.assertIs(is_fit(((-1,),), (-3,), ("bar", (Fraction(1, 3),))), False)
        self.assertIs(is_falling(((0, 0), (0, 0)), ("falling", (1, 0))), False)
        self.assertIs(is_falling(((0, 0), (0, 1)), ("kept", (0, 0))), False)
        self.assertIs(is_falling(((0, 0), (0, 1)), ("kept", (0, HALF))), True)
        self.assertIs(is_falling(((0, 0), (0, 1)), ("kept", (-1, HALF))), False)

    def test_both_sides_are_never_right(self):
        entries = (-2, -1, -HALF, 0, HALF, 1, 2)
        for _ in range(40):
            rows = self.drawn(2, 2)
            totals = self.totals_for(rows)
            square = self.square(2)
            tuples = [(one, other) for one in entries for other in entries]
            for checker, found, passed in ((is_solution, solution(rows, totals), (rows, totals)),
                                           (is_fit, fit(rows, totals), (rows, totals)),
                                           (is_falling, falling(square), (square,))):
                for word in WORDS:
                    for told in tuples:
                        if checker(*passed, (word, told)):
                            self.assertEqual(word, found[0])

    def test_what_is_never_right(self):
        rows, totals = ((1, 2), (2, 5)), (3, 7)
        for checker, pair, passed in ((is_solution, ("solution", (1, 1)), (rows, totals)),
                                      (is_solution, ("none", (-2, 1)), (((1, 2), (2, 4)), (1, 3))),
                                      (is_fit, ("fit", (0, 0)), (rows, totals)),
                                      (is_fit, ("bar", (1, 1)), (((1,), (-1,)), (1, -2))),
                                      (is_falling, ("falling", (4, 3)), (((0, 1), (HALF, 0)),)),
                                      (is_falling, ("kept", (1, 1)), (rows,))):
            self.assertIs(checker(*passed, pair), True)
            for value in self.never_right(pair):
                self.assertIs(checker(*passed, value), False, value)


if __name__ == "__main__":
    unittest.main()

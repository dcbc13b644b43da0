"""Rows of fractions: what times them is equal to totals, below totals, or less than itself."""

from surelyends.errors import InvalidOperation, InvalidRows
from surelyends.numbers.corners import corner_or_bar
from surelyends.numbers.fractions import Fraction, as_fraction, is_fractions, over_one_bottom
from surelyends.numbers.integers import is_between
from surelyends.numbers.pivots import Echelon

MAX_ROWS = 80
MAX_WIDTH = 12


def is_rows(value):
    """Whether the value is rows."""
    if not isinstance(value, tuple) or not is_between(len(value), 1, MAX_ROWS):
        return False
    if not all([is_fractions(row) for row in value]):
        return False
    width = len(value[0])
    return is_between(width, 1, MAX_WIDTH) and all([len(row) == width for row in value])


def times_of(rows, column):
    """The tuple of all rows, each times the column."""
    _check_rows(rows)
    _check_fractions(column, len(rows[0]))
    return _times(rows, column)


def mix_of(rows, factors):
    """The sums of factor * entry over the rows, for each place."""
    _check_rows(rows)
    _check_fractions(factors, len(rows))
    return _times(_turned(rows), factors)


def cleared(rows):
    """The cleared form of the rows."""
    _check_rows(rows)
    echelon = Echelon(len(rows[0]))
    for row in rows:
        rest = echelon.rest_of(over_one_bottom(row)[0])
        place = echelon.place_in(rest)
        if place is not None:
            echelon.take(rest, place)
    by_place = {place: row for place, row in zip(echelon.places, echelon.rows)}
    return tuple([_over(by_place[place], echelon.divisor) for place in sorted(by_place)])


def solution(rows, totals):
    """A pair ("solution", x) or ("none", factors)."""
    _check_rows_and_totals(rows, totals)
    width = len(rows[0])
    echelon = Echelon(width)
    taken = []
    for number, row in enumerate(rows):
        tops, bottom = over_one_bottom((*row, totals[number]))
        rest = echelon.rest_of(tops + _mark(len(taken), width + 1))
        place = echelon.place_in(rest)
        taken.append((number, bottom))
        if place is not None:
            echelon.take(rest, place)
        elif rest[width] != 0:
            return "none", _factors_of(taken, rest[width:], len(rows))
        else:
            taken.pop()
    found = [Fraction(0)] * width
    for place, row in zip(echelon.places, echelon.rows):
        found[place] = Fraction(row[width], echelon.divisor)
    return "solution", tuple(found)


def _mark(at, many):
    # The marks go along with a line, so that a rest tells by them of which lines it is made.
    return [1 if number == at else 0 for number in range(many)]


def _factors_of(taken, rest, many):
    total, *marks = rest
    factors = [Fraction(0)] * many
    for (number, bottom), mark in zip(taken, marks):
        factors[number] = Fraction(mark * bottom, total)
    return tuple(factors)


def is_solution(rows, totals, value):
    """Whether the value is such a pair."""
    _check_rows_and_totals(rows, totals)
    if _is_told(value, "solution", len(rows[0])):
        return _times(rows, value[1]) == totals
    if not _is_told(value, "none", len(rows)):
        return False
    mix = _times(_turned(rows), value[1])
    return all([one == 0 for one in mix]) and _row_times(totals, value[1]) == 1


def fit(rows, totals):
    """A pair ("fit", x) or ("bar", factors)."""
    _check_rows_and_totals(rows, totals)
    return _fit(rows, totals)


def _fit(rows, totals):
    lines = []
    bottoms = []
    for row, total in zip(rows, totals):
        tops, bottom = over_one_bottom((total, *row))
        lines.append(tops)
        bottoms.append(bottom)
    corner, factors = corner_or_bar(lines, len(rows[0]))
    if corner is not None:
        return "fit", _over([row[0] for row in corner.rows], corner.divisor)
    sum_of_totals = sum([factor * line[0] for factor, line in zip(factors, lines)])
    scaled = [factor * bottom for factor, bottom in zip(factors, bottoms)]
    return "bar", _over(scaled, -sum_of_totals)


def is_fit(rows, totals, value):
    """Whether the value is such a pair."""
    _check_rows_and_totals(rows, totals)
    if _is_told(value, "fit", len(rows[0])):
        return not _is_below_somewhere(value[1]) and _is_everywhere_at_most(_times(rows, value[1]), totals)
    if not _is_told(value, "bar", len(rows)) or _is_below_somewhere(value[1]):
        return False
    mix = _times(_turned(rows), value[1])
    return not _is_below_somewhere(mix) and _row_times(totals, value[1]) == -1


def falling(rows):
    """A pair ("falling", u) or ("kept", v)."""
    _check_square(rows)
    ones = [-1] * len(rows)
    word, found = _fit(_less_one(rows), ones)
    if word == "fit":
        return "falling", found
    # What bars the turned rows from falling is kept by the rows themselves, as both fall or neither does.
    _, kept = _fit(_less_one(_turned(rows)), ones)
    return "kept", kept


def is_falling(rows, value):
    """Whether the value is such a pair."""
    _check_square(rows)
    width = len(rows)
    if _is_told(value, "falling", width):
        column = value[1]
        return _is_everywhere_less((0,) * width, column) and _is_everywhere_less(_times(rows, column), column)
    if not _is_told(value, "kept", width) or _is_below_somewhere(value[1]):
        return False
    column = value[1]
    return not all([one == 0 for one in column]) and _is_everywhere_at_most(column, _times(rows, column))


def kept_back(rows):
    """As many rows as their length, such that a column times them is the column less what the rows times it are."""
    return tuple([
        tuple([1 - entry if at == place else -entry for place, entry in enumerate(row)])
        for at, row in enumerate(rows)
    ])


def _check_rows(rows):
    if not is_rows(rows):
        raise InvalidRows("no rows")


def _check_fractions(value, many):
    if not is_fractions(value) or len(value) != many:
        raise InvalidRows("not a tuple of as many fractions as are needed")


def _check_rows_and_totals(rows, totals):
    _check_rows(rows)
    _check_fractions(totals, len(rows))


def _check_square(rows):
    _check_rows(rows)
    if len(rows) != len(rows[0]):
        raise InvalidOperation("not as many rows as their length")
    if any([_is_below_somewhere(row) for row in rows]):
        raise InvalidOperation("an entry is below 0")


def _is_told(value, word, many):
    if not isinstance(value, tuple) or len(value) != 2:
        return False
    return isinstance(value[0], str) and value[0] == word and is_fractions(value[1]) and len(value[1]) == many


def _is_below_somewhere(fractions):
    return any([as_fraction(one).top < 0 for one in fractions])


def _is_everywhere_at_most(fractions, others):
    return not any([as_fraction(other).is_less(one) for one, other in zip(fractions, others)])


def _is_everywhere_less(fractions, others):
    return all([as_fraction(one).is_less(other) for one, other in zip(fractions, others)])


def _turned(rows):
    return tuple([tuple([row[at] for row in rows]) for at in range(len(rows[0]))])


def _less_one(rows):
    return [
        [entry - 1 if at == place else entry for place, entry in enumerate(row)]
        for at, row in enumerate(rows)
    ]


def _over(tops, bottom):
    return tuple([Fraction(top, bottom) for top in tops])


def _row_times(row, column):
    return _times((row,), column)[0]


def _times(rows, column):
    # The column gets one bottom first: so there is one fraction to be brought to its least form for each row only.
    column_tops, column_bottom = over_one_bottom(column)
    found = []
    for row in rows:
        tops, bottom = over_one_bottom(row)
        top = sum([one * other for one, other in zip(tops, column_tops)])
        found.append(Fraction(top, bottom * column_bottom))
    return tuple(found)

"""Weights of knots, which show whether the procedures of a knot call one another more and more often."""

from surelyends.chances.knots import mean_rows
from surelyends.chances.tables import is_above_0, is_at_most, is_headed, is_weights
from surelyends.errors import InvalidOperation
from surelyends.numbers.fractions import total_of
from surelyends.numbers.rows import fit, solution, times_of


def loads_of(program, knot, weights):
    """A dict from the procedures of a knot to their loads."""
    rows = mean_rows(program, knot)
    if not is_weights(weights, knot):
        raise InvalidOperation("not weights of the knot")
    return {name: load for name, load, _ in _loads(rows, weights)}


def _loads(rows, weights):
    # A list of triples (procedure, load, weight).
    loads = times_of(rows, tuple([weight for _, weight in weights]))
    return [(name, load, weight) for (name, weight), load in zip(weights, loads)]


def pace_of(program, knot):
    """The pace of a knot."""
    rows = mean_rows(program, knot)
    if _even_column(rows) is not None:
        return "even"
    return "growing" if steady_weights(knot, list(enumerate(rows))) is None else "falling"


def knot_paper(program, knot):
    """A pair ("steady", weights) or ("growing", weights) of a knot."""
    rows = mean_rows(program, knot)
    weights = steady_weights(knot, list(enumerate(rows)))
    if weights is not None:
        return "steady", weights
    return "growing", _named(knot, _growing_column(rows))


def is_knot_paper(program, knot, value):
    """Whether the value is such a pair of the knot."""
    rows = mean_rows(program, knot)
    if is_headed(value, "steady", 2) and is_weights(value[1], knot):
        return all([is_at_most(load, weight) for _, load, weight in _loads(rows, value[1])])
    if is_headed(value, "growing", 2) and is_weights(value[1], knot):
        return not any([is_at_most(load, weight) for _, load, weight in _loads(rows, value[1])])
    return False


def even_weights(program, knot):
    """The steady weights of an even knot, with 1 for the first procedure, or None."""
    column = _even_column(mean_rows(program, knot))
    return None if column is None else _named(knot, column)


def steady_weights(knot, placed_rows):
    """Weights of a knot by which no row is worth more than the weight at its place, or None.

    The rows are a list of pairs (place, row); several rows can have one place.
    """
    rises = tuple([_rise(place, row) for place, row in placed_rows])
    column = _column_from_1(rises, (0,) * len(rises))
    return None if column is None else _named(knot, column)


def _named(knot, column):
    return tuple([(name, weight) for name, weight in zip(knot, column)])


def _even_column(rows):
    # Only the greatest factor by which a knot can grow has weights above 0 everywhere, and it has one line of them.
    first = tuple([1] + [0] * (len(rows) - 1))
    word, found = solution(_rises(rows) + (first,), (0,) * len(rows) + (1,))
    if word == "solution" and all([is_above_0(weight) for weight in found]):
        return found
    return None


def _rises(rows):
    return tuple([_rise(at, row) for at, row in enumerate(rows)])


def _rise(at, row):
    # What the load of the procedure at this place rises above its weight, as a row.
    return tuple([entry - 1 if at == place else entry for place, entry in enumerate(row)])


def _growing_column(rows):
    falls = tuple([tuple([-entry for entry in row]) for row in _rises(rows)])
    return _column_from_1(falls, (-1,) * len(falls))


def _column_from_1(rows, totals):
    # A column, nowhere below 1, by which each row times it is at most its total, or None. If only the signs of the
    # totals matter, as here, all columns above 0 can be brought to this form.
    word, found = fit(rows, tuple([total - total_of(row) for row, total in zip(rows, totals)]))
    return tuple([1 + entry for entry in found]) if word == "fit" else None

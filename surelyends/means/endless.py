"""Endless means, shown by papers, and spreads of the prices of runs."""

from surelyends.chances.knots import rows_among, worth_of
from surelyends.chances.tables import is_above_0, is_at_most, is_headed, is_table, names_in
from surelyends.errors import InvalidOperation
from surelyends.means.means import check_sure, finite_paper, finite_rows, is_finite_paper, priced_of
from surelyends.numbers.fractions import Fraction, total_of
from surelyends.numbers.rows import falling, kept_back, solution
from surelyends.programs.parts import bodies_in, weights_of


def endless_paper(program, name, prices):
    """An endless paper of a sure procedure, or None if its mean is finite."""
    check_sure(program, name, prices)
    names = priced_of(program, name, prices)
    if len(names) == 0:
        return None
    word, column = falling(rows_among(program, names))
    if word == "falling":
        return None
    return "endless", tuple([(other, weight) for other, weight in zip(names, column) if is_above_0(weight)])


def is_endless_paper(program, name, prices, value):
    """Whether the value is an endless paper of a sure procedure."""
    check_sure(program, name, prices)
    if not is_headed(value, "endless", 2) or not is_table(value[1], 1) or len(value[1]) == 0:
        return False
    names = priced_of(program, name, prices)
    if not all([other in names and is_above_0(weight) for other, weight in value[1]]):
        return False
    worths = {("call", other): weight for other, weight in value[1]}
    return all([is_at_most(weight, worth_of(program[other], worths)) for other, weight in value[1]])


def mean_paper(program, name, prices):
    """A finite paper or an endless paper of a sure procedure."""
    found = finite_paper(program, name, prices)
    return endless_paper(program, name, prices) if found is None else found


def is_mean_paper(program, name, prices, value):
    """Whether the value is a finite paper or an endless paper of a sure procedure."""
    return is_finite_paper(program, name, prices, value) or is_endless_paper(program, name, prices, value)


def spread_of(program, name, prices):
    """The variance of the prices of the runs of a sure procedure with a finite mean."""
    check_sure(program, name, prices)
    rows = _spread_rows(program, name, prices)
    if rows is None:
        raise InvalidOperation("the mean is endless")
    # A procedure that is not priced stands in no row.
    return total_of(tuple([spread for other, _, spread, _ in rows if other == name]))


def spread_paper(program, name, prices):
    """A spread paper of a sure procedure, or None if its mean is endless."""
    check_sure(program, name, prices)
    rows = _spread_rows(program, name, prices)
    return None if rows is None else ("spread", rows)


def _spread_rows(program, name, prices):
    rows = finite_rows(program, name, prices)
    if rows is None or len(rows) == 0:
        return rows
    names = names_in(rows)
    # The spreads of calls come into that of a body just as means do, and the rest of it needs the means alone.
    without = {other: (mean, 0) for other, mean, _ in rows}
    totals = tuple([_mean_and_spread(program[other], without, prices)[1] for other in names])
    _, spreads = solution(kept_back(rows_among(program, names)), totals)
    return tuple([(other, mean, spread, weight) for (other, mean, weight), spread in zip(rows, spreads)])


def is_spread_paper(program, name, prices, value):
    """Whether the value is a spread paper of a sure procedure."""
    check_sure(program, name, prices)
    if not is_headed(value, "spread", 2) or not is_table(value[1], 3):
        return False
    rows = tuple([(other, mean, weight) for other, mean, _, weight in value[1]])
    if not is_finite_paper(program, name, prices, ("finite", rows)):
        return False
    told = {other: (mean, spread) for other, mean, spread, _ in value[1]}
    return all([_mean_and_spread(program[other], told, prices)[1] == spread for other, _, spread, _ in value[1]])


def _mean_and_spread(body, told, prices):
    # By the means and spreads of procedures, of which those that are not told have 0.
    parts = [_statement_mean_and_spread(statement, told, prices) for statement in body]
    return total_of(tuple([mean for mean, _ in parts])), total_of(tuple([spread for _, spread in parts]))


def _statement_mean_and_spread(statement, told, prices):
    word = statement[0]
    if word == "note":
        return prices.get(statement[1], 0), 0
    if word == "call":
        return told.get(statement[1], (0, 0))
    parts = [_mean_and_spread(body, told, prices) for body in bodies_in(statement)]
    if word == "again":
        return _rounds_mean_and_spread(weights_of(statement), parts[0])
    return _toss_mean_and_spread(weights_of(statement), parts)


def _rounds_mean_and_spread(weights, part):
    stop, go = weights
    mean, spread = part
    rounds = Fraction(go, stop)
    return mean * rounds, spread * rounds + mean * mean * (rounds + rounds * rounds)


def _toss_mean_and_spread(weights, parts):
    total = sum(weights)
    means = [Fraction(weight, total) * mean for weight, (mean, _) in zip(weights, parts)]
    squares = [Fraction(weight, total) * (spread + mean * mean) for weight, (mean, spread) in zip(weights, parts)]
    mean_of_all = total_of(tuple(means))
    return mean_of_all, total_of(tuple(squares)) - mean_of_all * mean_of_all

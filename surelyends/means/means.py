"""Means of the prices of the runs of sure procedures."""

from surelyends.chances.knots import reaches, rows_among, worth_of
from surelyends.chances.tables import is_above_0, is_at_most, is_headed, is_table, names_in
from surelyends.errors import InvalidOperation
from surelyends.numbers.fractions import total_of
from surelyends.numbers.integers import is_between
from surelyends.numbers.rows import falling, kept_back, solution, times_of
from surelyends.papers.verdicts import is_sure, sure_procedures
from surelyends.programs.programs import check_closed, check_name, is_name

MAX_PRICE = 99


def costs_of(program, prices):
    """A dict from all procedures to their costs."""
    check_closed(program)
    _check_prices(prices)
    worths = {("note", event): price for event, price in prices.items()}
    return {name: worth_of(program[name], worths) for name in program.names}


def priced_of(program, name, prices):
    """The ascending tuple of the priced procedures that a procedure reaches."""
    check_closed(program)
    check_name(program, name)
    costs = costs_of(program, prices)
    costly = [other for other in program.names if is_above_0(costs[other])]
    return tuple([
        other for other in reaches(program, name)
        if any([one in costly for one in reaches(program, other)])
    ])


def mean_of(program, name, prices):
    """The mean of a sure procedure, or None if it is endless."""
    check_sure(program, name, prices)
    return _mean(program, name, prices)


def means_of(program, prices):
    """A dict from all sure procedures to their means, None for endless ones."""
    check_closed(program)
    _check_prices(prices)
    return {name: _mean(program, name, prices) for name in sure_procedures(program)}


def _mean(program, name, prices):
    rows = finite_rows(program, name, prices)
    if rows is None:
        return None
    # A procedure that is not priced stands in no row.
    return total_of(tuple([mean for other, mean, _ in rows if other == name]))


def finite_paper(program, name, prices):
    """A finite paper of a sure procedure, or None if its mean is endless."""
    check_sure(program, name, prices)
    rows = finite_rows(program, name, prices)
    return None if rows is None else ("finite", rows)


def finite_rows(program, name, prices):
    """The rows of a finite paper of a procedure that is known to be sure, or None if its mean is endless."""
    names = priced_of(program, name, prices)
    if len(names) == 0:
        return ()
    rows = rows_among(program, names)
    word, weights = falling(rows)
    if word == "kept":
        return None
    costs = costs_of(program, prices)
    _, means = solution(kept_back(rows), tuple([costs[other] for other in names]))
    return tuple([(other, mean, weight) for other, mean, weight in zip(names, means, weights)])


def is_finite_paper(program, name, prices, value):
    """Whether the value is a finite paper of a sure procedure."""
    check_sure(program, name, prices)
    if not is_headed(value, "finite", 2) or not is_table(value[1], 2):
        return False
    names = priced_of(program, name, prices)
    if names_in(value[1]) != names:
        return False
    return len(names) == 0 or _shows_means(program, costs_of(program, prices), value[1])


def _shows_means(program, costs, table):
    rows = rows_among(program, names_in(table))
    means = times_of(rows, tuple([mean for _, mean, _ in table]))
    weights = times_of(rows, tuple([weight for _, _, weight in table]))
    for (name, mean, weight), of_calls, load in zip(table, means, weights):
        if not is_at_most(0, mean) or costs[name] + of_calls != mean:
            return False
        if not is_above_0(weight) or is_at_most(weight, load):
            return False
    return True


def _check_prices(prices):
    if not isinstance(prices, dict):
        raise InvalidOperation("the prices are no dict")
    if not all([is_name(event) and is_between(price, 0, MAX_PRICE) for event, price in prices.items()]):
        raise InvalidOperation("the prices are not those of events")


def check_sure(program, name, prices):
    """Refuse what is no program, procedure or prices, and procedures that are not sure."""
    check_closed(program)
    check_name(program, name)
    _check_prices(prices)
    if not is_sure(program, name):
        raise InvalidOperation("the procedure is not sure")

"""What procedures reach, the knots in which they reach one another, and how often they call one another."""

from surelyends.chances.tables import is_above_0
from surelyends.errors import InvalidOperation
from surelyends.numbers.fractions import Fraction, greatest_of, is_fraction, total_of
from surelyends.programs.parts import bodies_by_choices, bodies_in, weights_of
from surelyends.programs.programs import calls_of, check_closed, check_free, check_name


def reaches(free, name):
    """The ascending tuple of the procedures that a procedure reaches."""
    check_free(free)
    check_name(free, name)
    found = [name]
    waiting = [name]
    while len(waiting) > 0:
        last = waiting.pop()
        for other in calls_of(free, last):
            if other not in found:
                found.append(other)
                waiting.append(other)
    return tuple(sorted(found))


def knots(free):
    """The tuple of all knots, each behind those that it calls."""
    check_free(free)
    left = _unordered_knots(free)
    ahead = []
    found = []
    while len(left) > 0:
        knot = [one for one in left if _calls_only(free, one, ahead)][0]
        found.append(knot)
        ahead.extend(knot)
        left = [one for one in left if one != knot]
    return tuple(found)


def _unordered_knots(free):
    # Ascending by their least names.
    reached = {name: reaches(free, name) for name in free.names}
    found = []
    for name in free.names:
        knot = tuple([other for other in reached[name] if name in reached[other]])
        if knot[0] == name:
            found.append(knot)
    return found


def _calls_only(free, knot, ahead):
    return all([other in knot or other in ahead for name in knot for other in calls_of(free, name)])


def knot_of(free, name):
    """The knot of a procedure."""
    check_free(free)
    check_name(free, name)
    return [knot for knot in knots(free) if name in knot][0]


def mean_calls(program, name):
    """A dict from all procedures to the mean calls of them in the body of this one."""
    check_closed(program)
    check_name(program, name)
    return {other: calls_in(program[name], other) for other in program.names}


def mean_rows(program, knot):
    """The mean calls of the members of a knot in the bodies of its members."""
    check_closed(program)
    if knot not in knots(program):
        raise InvalidOperation("not a knot of the program")
    return rows_among(program, knot)


def rows_among(program, names):
    """For each of these procedures the tuple of its mean calls of these procedures."""
    return tuple([tuple([calls_in(program[name], other) for other in names]) for name in names])


def rows_by_choices(free, names):
    """A list of pairs (place, row): for the procedure at each place its rows, as in `rows_among`, for all choices."""
    found = []
    for place, name in enumerate(names):
        # What is chosen in other bodies does not matter.
        for body in bodies_by_choices(free[name]):
            pair = (place, tuple([calls_in(body, other) for other in names]))
            if pair not in found:
                found.append(pair)
    return found


def calls_in(body, name):
    """The mean calls of a procedure in a body."""
    return worth_of(body, {("call", name): 1})


def most_calls(free, name, weights):
    """The sum of mean calls * weights in a body, a choice as the greatest one of its bodies."""
    check_free(free)
    check_name(free, name)
    if not isinstance(weights, dict) or len(weights) != len(free):
        raise InvalidOperation("not a dict from just all procedures")
    if not all([other in weights and _is_at_least_0(weights[other]) for other in free.names]):
        raise InvalidOperation("not a dict from just all procedures to fractions of at least 0")
    return worth_of(free[name], {("call", other): weight for other, weight in weights.items()})


def _is_at_least_0(value):
    return is_fraction(value) and (value == 0 or is_above_0(value))


def worth_of(body, worths):
    """What a body is worth in the mean, by what calls and notes are worth, if all calls are over at once.

    The keys of the dict are such statements; all others are worth 0.
    """
    return total_of(tuple([_statement_worth(statement, worths) for statement in body]))


def _statement_worth(statement, worths):
    word = statement[0]
    if word in ("note", "call", "stay"):
        return worths.get(statement, 0)
    parts = [worth_of(body, worths) for body in bodies_in(statement)]
    if word == "choose":
        return greatest_of(tuple(parts))
    weights = weights_of(statement)
    if word == "again":
        stop, go = weights
        return parts[0] * Fraction(go, stop)
    sums = total_of(tuple([weight * part for weight, part in zip(weights, parts)]))
    return sums * Fraction(1, sum(weights))

"""Shares that are set anew, and the edges up to which procedures stay sure.

The mean calls in the body in which a dial stands rise or fall evenly with the *extent* of the dial: for a branch this
is its share, for a repeat the mean number of its rounds. So two bodies tell all of them, one with the extent 0 and one
with the extent 1.
"""

from surelyends.chances.knots import calls_in, knot_of, knots, reaches, rows_among, worth_of
from surelyends.chances.tables import is_above_0, is_at_most
from surelyends.chances.weights import knot_paper
from surelyends.errors import InvalidNumber, InvalidOperation
from surelyends.numbers.fractions import Fraction, as_fraction, is_fraction
from surelyends.numbers.integers import is_between
from surelyends.numbers.rows import falling, kept_back, solution
from surelyends.programs.parts import weights_of, with_part
from surelyends.programs.programs import can_end, check_closed, check_name, is_whole, part_at, statement_at


def share_at(program, place, *, branch=None):
    """The share of a dial."""
    check_closed(program)
    statement = _dial(program, place, branch)
    weights = weights_of(statement)
    at = 1 if branch is None else branch
    return Fraction(weights[at], sum(weights))


def calls_at(program, place, share, *, branch=None):
    """The mean calls of all procedures in the body in which a dial stands, if it is set to this share."""
    check_closed(program)
    _dial(program, place, branch)
    _check_share(share)
    without, once = _bodies_by_extent(program, place, branch)
    extent = _extent(share, branch)
    return {name: _between(calls_in(without, name), calls_in(once, name), extent) for name in program.names}


def sure_at(program, name, place, share, *, branch=None):
    """Whether the procedure is sure if a dial is set to this share."""
    check_closed(program)
    check_name(program, name)
    _dial(program, place, branch)
    _check_share(share)
    if not _is_sure_elsewhere(program, name, place):
        return False
    if place[0] not in reaches(program, name):
        return True
    weights = _weights_by_others(program, place)
    if weights is None:
        return False
    low, high = _loads_by_extent(program, place, branch, weights)
    return is_at_most(_between(low, high, _extent(share, branch)), 1)


def edge_of(program, name, place, *, branch=None):
    """To which shares a dial can be set such that the procedure is sure."""
    check_closed(program)
    check_name(program, name)
    _dial(program, place, branch)
    if not _is_sure_elsewhere(program, name, place):
        return ("none",)
    if place[0] not in reaches(program, name):
        return ("all",)
    weights = _weights_by_others(program, place)
    if weights is None:
        return ("none",)
    low, high = _loads_by_extent(program, place, branch, weights)
    return _form_of(low, high, branch)


def edge_weights(program, name, place, *, branch=None):
    """The even weights, at the edge, of the knot of the procedure in which the dial stands; None without an edge."""
    if len(edge_of(program, name, place, branch=branch)) == 1:
        return None
    # At the edge the load of this procedure is equal to its weight, as those of all others are at each share.
    weights = _weights_by_others(program, place)
    names = sorted(weights)
    return tuple([(other, weights[other].by(weights[names[0]])) for other in names])


def _dial(program, place, branch):
    statement = statement_at(program, place, ("toss", "again"))
    if statement[0] == "again" and branch is not None:
        raise InvalidNumber(branch)
    if statement[0] == "toss" and not is_between(branch, 0, len(statement) - 2):
        raise InvalidNumber(branch)
    return statement


def _check_share(share):
    if not is_fraction(share) or not is_above_0(share) or is_at_most(1, share):
        raise InvalidOperation("not a fraction above 0 and below 1")


def _extent(share, branch):
    part = as_fraction(share)
    return part.by(1 - part) if branch is None else part


def _share_of(extent, branch):
    return extent.by(1 + extent) if branch is None else extent


def _between(low, high, extent):
    return low + (high - low) * extent


def _bodies_by_extent(program, place, branch):
    # They are only counted, so a toss of one branch does no harm.
    name, path = place
    statement = part_at(program, place)
    if branch is None:
        without = ("again", 1, 1, ())
        once = ("again", 1, 1, statement[3])
    else:
        without = statement[:1 + branch] + statement[2 + branch:]
        once = ("toss", statement[1 + branch])
    return with_part(program[name], path, without), with_part(program[name], path, once)


def _is_sure_elsewhere(program, name, place):
    # Whether nothing but the dial's knot can keep the procedure from being sure; what can end hangs on no share.
    reached = reaches(program, name)
    able = can_end(program)
    if not all([other in able and is_whole(program, other) for other in reached]):
        return False
    steady = [knot_paper(program, knot)[0] == "steady" for knot in knots(program)
              if knot[0] in reached and place[0] not in knot]
    return all(steady)


def _weights_by_others(program, place):
    # A dict with 1 for the procedure of the dial, such that each other one of its knot has a load equal to its weight;
    # None if these others alone do not fall, so that no share makes the knot steady.
    name = place[0]
    others = tuple([other for other in knot_of(program, name) if other != name])
    weights = {name: Fraction(1)}
    if len(others) == 0:
        return weights
    rows = rows_among(program, others)
    if falling(rows)[0] == "kept":
        return None
    _, column = solution(kept_back(rows), tuple([calls_in(program[other], name) for other in others]))
    for other, weight in zip(others, column):
        weights[other] = weight
    return weights


def _loads_by_extent(program, place, branch, weights):
    worths = {("call", name): weight for name, weight in weights.items()}
    without, once = _bodies_by_extent(program, place, branch)
    return worth_of(without, worths), worth_of(once, worths)


def _form_of(low, high, branch):
    # The load is low at the extent 0 and high at the extent 1; that of a repeat has extents beyond 1, and never falls.
    rise = high - low
    if is_at_most(low, 1) and (rise == 0 or (is_at_most(high, 1) and branch is not None)):
        return ("all",)
    if is_at_most(1, low) and is_at_most(1, high):
        return ("none",)
    edge = _share_of((1 - low).by(rise), branch)
    return ("upto", edge) if is_above_0(rise) else ("from", edge)

"""Two fractions for each procedure, as near as wished, between which its chance is."""

from surelyends.chances.tables import is_at_most, is_headed, is_table, names_in
from surelyends.chances.values import is_values, next_of
from surelyends.errors import InvalidFraction, InvalidOperation
from surelyends.numbers.fractions import Fraction, is_fraction
from surelyends.papers.nearing import lows_and_highs
from surelyends.papers.sure import are_sure_layers, names_of_layers, sure_layers
from surelyends.programs.programs import can_end, check_closed, check_name


def between_paper(program, error):
    """A between paper in which each high is at most its low plus the error."""
    check_closed(program)
    _check_error(error)
    lows, highs = lows_and_highs(program, program.names, error)
    rows = tuple([(name, lows[name], highs[name]) for name in program.names])
    return "between", sure_layers(program, program.names), rows


def is_between_paper(program, value):
    """Whether the value is a between paper of the program."""
    check_closed(program)
    if not is_headed(value, "between", 3) or not are_sure_layers(program, value[1]) or not is_table(value[2], 2):
        return False
    lows = {name: low for name, low, _ in value[2]}
    highs = {name: high for name, _, high in value[2]}
    if not is_values(program, lows) or not is_values(program, highs):
        return False
    if not _are_limited(program, names_of_layers(value[1]), lows, highs):
        return False
    names = names_in(value[2])
    rise = next_of(program, names, lows)
    fall = next_of(program, names, highs)
    return all([is_at_most(lows[name], rise[name]) and is_at_most(fall[name], highs[name]) for name in names])


def _are_limited(program, sure, lows, highs):
    able = can_end(program)
    for name, high in highs.items():
        if not is_at_most(lows[name], high):
            return False
        if name in sure:
            if lows[name] != 1:
                return False
        elif high == 1 or (name not in able and high != 0):
            return False
    return True


def bounds(program, name, error):
    """A pair (low, high) for the procedure, as in a between paper."""
    check_closed(program)
    check_name(program, name)
    _check_error(error)
    lows, highs = lows_and_highs(program, program.names, error)
    return lows[name], highs[name]


def _check_error(error):
    if not is_fraction(error):
        raise InvalidFraction("not a fraction")
    if not is_at_most(Fraction(1, 10 ** 40), error):
        raise InvalidOperation("the error is too small")

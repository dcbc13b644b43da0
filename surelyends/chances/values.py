"""Next values of procedures, their slopes, and rounds of them."""

from surelyends.chances.knots import reaches
from surelyends.chances.lines import Lines, line_of_call
from surelyends.chances.tables import is_from_0_to_1
from surelyends.errors import InvalidNumber, InvalidValues, TooMany
from surelyends.numbers.fractions import Fraction, as_fraction
from surelyends.numbers.integers import is_at_least
from surelyends.programs.parts import bodies_in
from surelyends.programs.programs import calls_of, check_closed, check_name

MAX_DEGREE = 400


def is_values(program, value):
    """Whether the value is values of the program."""
    check_closed(program)
    if not isinstance(value, dict) or len(value) != len(program):
        return False
    return all([name in value and is_from_0_to_1(value[name]) for name in program.names])


def next_values(program, values):
    """The next values of all procedures."""
    _check_values(program, values)
    return next_of(program, program.names, values)


def next_of(program, names, values):
    """The next values of some procedures, by the values of those that they call."""
    parts = {name: as_fraction(value) for name, value in values.items()}
    lines = Lines({name: line_of_call(part.top, part.bottom, None, 1) for name, part in parts.items()}, 1)
    found = {}
    for name in names:
        tops, bottom = lines.of_body(program[name])
        found[name] = Fraction(tops[0], bottom)
    return found


def slopes(program, values):
    """A dict from all procedures to dicts from all procedures: the slopes of the first for the second."""
    _check_values(program, values)
    names = program.names
    width = len(names) + 1
    called = {}
    for place, name in enumerate(names, start=1):
        part = as_fraction(values[name])
        called[name] = line_of_call(part.top, part.bottom, place, width)
    lines = Lines(called, width)
    found = {}
    for name in names:
        tops, bottom = lines.of_body(program[name])
        found[name] = {other: Fraction(top, bottom) for other, top in zip(names, tops[1:])}
    return found


def rounds_of(program, values, many):
    """The values behind so many rounds of next values."""
    _check_values(program, values)
    _check_many(many)
    if _has_greater_degree(program, program.names, program.names, many):
        raise TooMany(MAX_DEGREE)
    found = {name: as_fraction(values[name]) for name in program.names}
    done = 0
    while done < many:
        further = next_of(program, program.names, found)
        if further == found:
            return found
        found = further
        done += 1
    return found


def within(program, name, depth):
    """The chance that a run ends without ever having more open calls than this."""
    check_closed(program)
    check_name(program, name)
    _check_many(depth)
    if _has_greater_degree(program, reaches(program, name), (name,), depth):
        raise TooMany(MAX_DEGREE)
    # Ahead of the last round only those are needed which are called, as the others can be far longer fractions.
    levels = [(name,)]
    while len(levels) <= depth and len(levels[-1]) > 0:
        levels.append(_called_by(program, levels[-1]))
    found = {other: 0 for other in levels.pop()}
    while len(levels) > 0:
        found = next_of(program, levels.pop(), found)
    return as_fraction(found[name])


def _called_by(program, names):
    return tuple(sorted({other for name in names for other in calls_of(program, name)}))


def _check_values(program, values):
    if not is_values(program, values):
        raise InvalidValues("not values of the program")


def _check_many(many):
    if not is_at_least(many, 0):
        raise InvalidNumber(many)


def _has_greater_degree(program, names, asked, depth):
    # Whether one that is asked for has too great a degree at this depth; the names call no others. Degrees never
    # become less, and where one is called in a ring it rises for ever, so this is soon known.
    degrees = {name: 0 for name in names}
    done = 0
    while done < depth:
        further = {name: _body_degree(program[name], degrees) for name in names}
        if any([further[name] > MAX_DEGREE for name in asked]):
            return True
        if further == degrees:
            return False
        degrees = further
        done += 1
    return False


def _body_degree(body, degrees):
    return sum([_statement_degree(statement, degrees) for statement in body])


def _statement_degree(statement, degrees):
    if statement[0] == "call":
        return degrees[statement[1]] + 1
    return max([_body_degree(body, degrees) for body in bodies_in(statement)], default=0)

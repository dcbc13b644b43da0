"""Procedures that are stopped, so that others become sure."""

from surelyends.chances.knots import reaches
from surelyends.chances.tables import is_headed
from surelyends.errors import InvalidOperation
from surelyends.papers.sure import is_sure_paper, sure_paper
from surelyends.papers.verdicts import is_sure, is_unsure_paper, unsure_paper
from surelyends.programs.programs import Program, check_closed, check_name


def stopped(program, names):
    """The program in which these procedures have empty bodies."""
    check_closed(program)
    if not _are_names(names, program.names):
        raise InvalidOperation("not an ascending tuple of names of procedures")
    return _stopped(program, names)


def _stopped(program, names):
    return Program.of({name: () if name in names else program[name] for name in program.names})


def is_stop(program, name, value):
    """Whether the value is a stop of the procedure."""
    check_closed(program)
    check_name(program, name)
    return _is_stop(program, name, value)


def _is_stop(program, name, value):
    return _are_names(value, _others(program, name)) and is_sure(_stopped(program, value), name)


def _are_names(value, names):
    # Whether the value is an ascending tuple of some of these names.
    if not isinstance(value, tuple) or not all([one in names for one in value]):
        return False
    return all([one < other for one, other in zip(value, value[1:])])


def _others(program, name):
    return tuple([other for other in reaches(program, name) if other != name])


def least_stops(program, name):
    """The tuple of all least stops of the procedure, those with fewer names first."""
    check_closed(program)
    check_name(program, name)
    return _least_of(_others(program, name), lambda names: is_sure(_stopped(program, names), name))


def meeting_sets(program, name):
    """The least tuples of names that have a name in common with each stop, those with fewer names first."""
    stops = least_stops(program, name)
    return _least_of(_others(program, name), lambda names: all([_meet(names, stop) for stop in stops]))


def _meet(names, others):
    return any([name in others for name in names])


def _least_of(names, holds):
    # What holds for a tuple of names holds also with more names.
    found = []
    for many in range(len(names) + 1):
        for some in _tuples_of(names, many):
            if not any([_has_all(some, least) for least in found]) and holds(some):
                found.append(some)
    return tuple(found)


def _has_all(names, others):
    return all([other in names for other in others])


def _tuples_of(names, many):
    # A list of all tuples of so many of these names, in their order.
    if many == 0:
        return [()]
    return [
        (name,) + more
        for at, name in enumerate(names)
        for more in _tuples_of(names[at + 1:], many - 1)
    ]


def stop_paper(program, name, names):
    """A stop paper of the procedure, which shows that the names are a least stop."""
    check_closed(program)
    check_name(program, name)
    if not _is_stop(program, name, names) or any([_is_stop(program, name, fewer) for fewer in _each_left_out(names)]):
        raise InvalidOperation("not a least stop")
    _, layers = sure_paper(_stopped(program, names), name)
    others = [unsure_paper(_stopped(program, fewer), name)[1] for fewer in _each_left_out(names)]
    return "stop", names, layers, tuple(others)


def _each_left_out(names):
    return [names[:at] + names[at + 1:] for at in range(len(names))]


def is_stop_paper(program, name, value):
    """Whether the value is a stop paper of the procedure."""
    check_closed(program)
    check_name(program, name)
    if not is_headed(value, "stop", 4) or not _are_names(value[1], _others(program, name)):
        return False
    _, names, layers, others = value
    if not is_sure_paper(_stopped(program, names), name, ("sure", layers)):
        return False
    if not isinstance(others, tuple) or len(others) != len(names):
        return False
    return all([
        is_unsure_paper(_stopped(program, fewer), name, ("unsure", rows))
        for fewer, rows in zip(_each_left_out(names), others)
    ])

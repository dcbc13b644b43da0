"""Whether procedures are sure or unsure, each with a paper."""

from surelyends.chances.knots import reaches
from surelyends.chances.tables import is_at_most, is_from_0_to_1, is_headed, is_table, names_in
from surelyends.chances.values import next_of
from surelyends.errors import InvalidOperation
from surelyends.numbers.fractions import as_fraction, least_of
from surelyends.papers.nearing import lows_and_highs
from surelyends.papers.sure import is_sure_paper, names_of_layers, sure_layers, sure_paper
from surelyends.programs.programs import check_closed, check_name


def is_sure(program, name):
    """Whether the procedure is sure."""
    return sure_paper(program, name) is not None


def sure_procedures(program):
    """The ascending tuple of all sure procedures."""
    check_closed(program)
    return names_of_layers(sure_layers(program, program.names))


def unsure_paper(program, name):
    """An unsure paper of the procedure, or None."""
    if is_sure(program, name):
        return None
    _, highs = lows_and_highs(program, reaches(program, name), 1)
    return "unsure", _rows(highs)


def is_unsure_paper(program, name, value):
    """Whether the value is an unsure paper of the procedure."""
    check_closed(program)
    check_name(program, name)
    if not is_headed(value, "unsure", 2) or not is_table(value[1], 1):
        return False
    names = reaches(program, name)
    if names_in(value[1]) != names or not all([is_from_0_to_1(one) for _, one in value[1]]):
        return False
    values = _values(value)
    further = next_of(program, names, values)
    return values[name] != 1 and all([is_at_most(further[other], values[other]) for other in names])


def paper_of(program, name):
    """A sure paper or an unsure paper of the procedure."""
    found = sure_paper(program, name)
    return unsure_paper(program, name) if found is None else found


def is_paper(program, name, value):
    """Whether the value is a sure paper or an unsure paper of the procedure."""
    return is_sure_paper(program, name, value) or is_unsure_paper(program, name, value)


def next_paper(program, name, value):
    """The unsure paper with the next values of an unsure paper."""
    _check_paper(program, name, value)
    return "unsure", _rows(next_of(program, names_in(value[1]), _values(value)))


def lesser_paper(program, name, value, other):
    """The unsure paper with the lesser ones of the values of two unsure papers."""
    _check_paper(program, name, value)
    _check_paper(program, name, other)
    others = _values(other)
    return "unsure", _rows({told: least_of((one, others[told])) for told, one in _values(value).items()})


def _check_paper(program, name, value):
    if not is_unsure_paper(program, name, value):
        raise InvalidOperation("not an unsure paper of the procedure")


def _values(paper):
    return {name: as_fraction(value) for name, value in paper[1]}


def _rows(values):
    return tuple([(name, values[name]) for name in sorted(values)])

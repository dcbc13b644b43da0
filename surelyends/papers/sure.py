"""Sure papers: weights that show that procedures end with chance 1."""

from surelyends.chances.knots import knots, reaches, rows_by_choices, worth_of
from surelyends.chances.tables import is_above_0, is_at_most, is_headed, is_table, names_in
from surelyends.chances.weights import steady_weights
from surelyends.errors import InvalidOperation
from surelyends.numbers.fractions import as_fraction
from surelyends.programs.programs import always_able, calls_of, check_closed, check_name, is_whole


def sure_paper(program, name):
    """A sure paper of the procedure, or None."""
    check_closed(program)
    check_name(program, name)
    layers = sure_layers(program, reaches(program, name))
    if name not in names_of_layers(layers):
        return None
    return "sure", layers


def sure_layers(free, names):
    """The layers of a sure paper with all that are sure of these procedures, which call no others.

    Of a program with choices: those of an always paper, with all that are sure whatever is chosen.
    """
    able = always_able(free)
    found = ()
    for knot in knots(free):
        if knot[0] in names and _may_be_layer(free, knot, able, names_of_layers(found)):
            weights = steady_weights(knot, rows_by_choices(free, knot))
            if weights is not None:
                found = found + (weights,)
    return found


def names_of_layers(layers):
    """The ascending tuple of the procedures in layers."""
    return tuple(sorted([name for layer in layers for name in names_in(layer)]))


def _may_be_layer(free, names, able, ahead):
    # All that is asked of a layer with these procedures, but for the weights.
    if not all([name in able and is_whole(free, name) for name in names]):
        return False
    return all([other in names or other in ahead for name in names for other in calls_of(free, name)])


def is_sure_paper(program, name, value):
    """Whether the value is a sure paper of the procedure."""
    check_closed(program)
    check_name(program, name)
    return _is_paper(program, value) and name in names_of_layers(value[1])


def _is_paper(program, value):
    return is_headed(value, "sure", 2) and are_sure_layers(program, value[1])


def are_sure_layers(free, value):
    """Whether the value is the layers of a sure paper, or of an always paper of a program with choices."""
    if not isinstance(value, tuple):
        return False
    able = always_able(free)
    ahead = []
    for layer in value:
        if not _is_layer(free, layer, able, ahead):
            return False
        ahead.extend(names_in(layer))
    return True


def _is_layer(free, value, able, ahead):
    if not is_table(value, 1) or len(value) == 0:
        return False
    names = names_in(value)
    if any([name in ahead for name in names]) or not _may_be_layer(free, names, able, ahead):
        return False
    worths = {("call", name): weight for name, weight in value}
    return all([is_above_0(weight) and is_at_most(worth_of(free[name], worths), weight) for name, weight in value])


def sure_names(program, value):
    """The ascending tuple of the procedures of a sure paper."""
    _check_paper(program, value)
    return names_of_layers(value[1])


def split_paper(program, value):
    """The sure paper in which each layer is replaced by its knots."""
    _check_paper(program, value)
    in_order = knots(program)
    found = []
    for layer in value[1]:
        names = names_in(layer)
        found.extend([_part_of(layer, knot) for knot in in_order if knot[0] in names])
    return "sure", tuple(found)


def joined_papers(program, value, other):
    """The sure paper with the layers of the first one, and behind them what the second one has besides."""
    _check_paper(program, value)
    _check_paper(program, other)
    names = names_of_layers(value[1])
    first = [_part_of(layer, names) for layer in value[1]]
    further = tuple([name for name in program.names if name not in names])
    second = [_part_of(layer, further) for layer in other[1]]
    return "sure", tuple([layer for layer in first + second if len(layer) > 0])


def _part_of(layer, names):
    return tuple([(name, as_fraction(weight)) for name, weight in layer if name in names])


def _check_paper(program, value):
    check_closed(program)
    if not _is_paper(program, value):
        raise InvalidOperation("not a sure paper of the program")

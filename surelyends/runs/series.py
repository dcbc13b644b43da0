"""The chances that bodies are gone through in just so many steps, as lists of integers.

The entry at n is the chance for n steps, times the scale to the n. The scale is a multiple of all sums of weights, and
each pick is a step of its own; so no entry needs a bottom.
"""

from math import lcm

from surelyends.programs.parts import bodies_in, placed_statements, weights_of


def scale_of(program):
    """The least common multiple of all sums of weights."""
    scale = 1
    for name in program.names:
        for _, statement in placed_statements(program[name]):
            scale = lcm(scale, max(1, sum(weights_of(statement))))
    return scale


def ends_series(program, name, scale, steps, depth):
    """The series of a procedure up to so many steps, of runs with at most so many open calls."""
    # A call takes a step: so a run of so many steps has no more calls, besides itself.
    levels = min(depth, steps + 1)
    below = {other: [] for other in program.names}
    for level in range(1, levels + 1):
        # Each level that is still to come takes a step ahead of this one.
        degree = steps - (levels - level)
        below = {other: _body_series(program[other], below, scale, degree) for other in program.names}
    return _filled(below[name], steps)


def _body_series(body, below, scale, degree):
    series = _filled([1], degree)
    for statement in body:
        series = _product(_statement_series(statement, below, scale, degree), series)
    return series


def _statement_series(statement, below, scale, degree):
    word = statement[0]
    if word == "stay":
        return _filled([], degree)
    if word == "note":
        return _step_and([1], scale, degree)
    if word == "call":
        return _step_and(below[statement[1]], scale, degree)
    weights = weights_of(statement)
    factors = [weight * scale // sum(weights) for weight in weights]
    bodies = [_body_series(body, below, scale, degree) for body in bodies_in(statement)]
    if word == "again":
        return _repeat_series(factors, bodies[0])
    series = _filled([], degree)
    for factor, body in zip(factors, bodies):
        series = [entry + more for entry, more in zip(series, _step_and(body, factor, degree))]
    return series


def _repeat_series(factors, body):
    # Behind one step it is over, or there is a round and then the same repeat; so each entry is told by those ahead.
    stop, go = factors
    series = [0] * len(body)
    for at in range(1, len(body)):
        rounds = sum([body[at - 1 - behind] * series[behind] for behind in range(at)])
        series[at] = go * rounds + (stop if at == 1 else 0)
    return series


def _step_and(series, factor, degree):
    return _filled([0] + [factor * entry for entry in series], degree)


def _product(one, other):
    # Both have the same length, and what is beyond it is not needed.
    series = [0] * len(other)
    for at, factor in enumerate(one):
        if factor != 0:
            for behind in range(len(other) - at):
                series[at + behind] += factor * other[behind]
    return series


def _filled(series, degree):
    return series[:degree + 1] + [0] * (degree + 1 - len(series))

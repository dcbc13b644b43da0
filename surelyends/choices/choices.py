"""Programs with choices: fixed by plans, and sure whatever is chosen."""

from surelyends.chances.knots import reaches
from surelyends.chances.tables import is_headed
from surelyends.errors import InvalidOperation, TooMany
from surelyends.numbers.integers import is_between, is_plain_integer
from surelyends.papers.sure import are_sure_layers, names_of_layers, sure_layers
from surelyends.papers.verdicts import is_sure, is_unsure_paper, unsure_paper
from surelyends.programs.parts import bodies_in, with_bodies
from surelyends.programs.programs import Program, check_free, check_name, part_at

MAX_FIXED = 64


def fixed_by(free, plan):
    """The program in which each choice is replaced by the statements of one of its bodies."""
    check_free(free)
    if not _is_plan(free, plan):
        raise InvalidOperation("not a plan of the program")
    return _fixed(free, plan)


def _is_plan(free, value):
    if not isinstance(value, dict) or len(value) != len(free.choices):
        return False
    return all([_is_exact(place) and place in free.choices for place in value]) and _are_numbers(free, value)


def _is_exact(place):
    # A place that is equal to one of a choice can still have True or a fraction where this has 1.
    if not isinstance(place, tuple) or len(place) != 2 or not isinstance(place[1], tuple):
        return False
    return all([is_plain_integer(number) for number in place[1]])


def _are_numbers(free, plan):
    return all([is_between(number, 0, _many_bodies(free, place) - 1) for place, number in plan.items()])


def _many_bodies(free, place):
    return len(bodies_in(part_at(free, place)))


def _fixed(free, plan):
    return Program.of({name: _fixed_body(free[name], plan, name, ()) for name in free.names})


def _fixed_body(body, plan, name, path):
    found = ()
    for number, statement in enumerate(body):
        found = found + _fixed_statements(statement, plan, name, path + (number,))
    return found


def _fixed_statements(statement, plan, name, path):
    if statement[0] == "choose":
        number = plan[(name, path)]
        return _fixed_body(statement[1 + number], plan, name, path + (number,))
    bodies = [_fixed_body(body, plan, name, path + (number,)) for number, body in enumerate(bodies_in(statement))]
    return (with_bodies(statement, tuple(bodies)),)


def all_fixed(free):
    """A generator of all pairs (plan, fixed program), ascending by the numbers in the plans."""
    check_free(free)
    _check_many(free)
    for plan in _plans(free):
        yield plan, _fixed(free, plan)


def _check_many(free):
    many = 1
    for place in free.choices:
        many = many * _many_bodies(free, place)
        if many > MAX_FIXED:
            raise TooMany(MAX_FIXED)


def _plans(free):
    # A list of all plans, ascending by their numbers.
    rows = [()]
    for place in free.choices:
        many = _many_bodies(free, place)
        rows = [row + (number,) for row in rows for number in range(many)]
    return [_plan_of(free, row) for row in rows]


def _plan_of(free, numbers):
    return {place: number for place, number in zip(free.choices, numbers)}


def always_sure(free, name):
    """Whether the procedure is sure in all fixed programs."""
    _check(free, name)
    return name in names_of_layers(sure_layers(free, reaches(free, name)))


def always_paper(free, name):
    """An always paper of the procedure, or a spoilt one."""
    _check(free, name)
    layers = sure_layers(free, reaches(free, name))
    if name in names_of_layers(layers):
        return "always", layers
    plan = _first_plan(free, name, False)
    pairs = tuple([(place, plan[place]) for place in free.choices])
    return "spoilt", pairs, unsure_paper(_fixed(free, plan), name)[1]


def is_always_paper(free, name, value):
    """Whether the value is an always paper of the procedure, or a spoilt one."""
    _check(free, name)
    if is_headed(value, "always", 2):
        return are_sure_layers(free, value[1]) and name in names_of_layers(value[1])
    if not is_headed(value, "spoilt", 3) or not _are_pairs_of_plan(free, value[1]):
        return False
    plan = {place: number for place, number in value[1]}
    return is_unsure_paper(_fixed(free, plan), name, ("unsure", value[2]))


def _are_pairs_of_plan(free, value):
    if not isinstance(value, tuple) or not all([isinstance(pair, tuple) and len(pair) == 2 for pair in value]):
        return False
    if not all([_is_exact(place) for place, _ in value]) or tuple([place for place, _ in value]) != free.choices:
        return False
    return _are_numbers(free, {place: number for place, number in value})


def sometimes(free, name):
    """A plan by which the procedure is sure in the fixed program, or None."""
    _check(free, name)
    return _first_plan(free, name, True)


def _first_plan(free, name, wanted):
    # The first plan by which the procedure is sure, or by which it is not, or None.
    for plan in _plans(free):
        if is_sure(_fixed(free, plan), name) == wanted:
            return plan
    return None


def _check(free, name):
    check_free(free)
    check_name(free, name)
    _check_many(free)

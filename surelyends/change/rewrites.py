"""Programs with one change, by which runs end with the same chances and have noted the same."""

from math import gcd

from surelyends.chances.knots import reaches
from surelyends.errors import InvalidNumber, InvalidOperation, InvalidProgram
from surelyends.numbers.integers import is_between
from surelyends.programs.parts import part_within, weights_of, with_part, with_weights
from surelyends.programs.programs import MAX_WEIGHT, Program, check_free, check_name, is_name, statement_at

WORDS = ("note", "call", "toss", "again", "choose", "stay")


def inlined(free, place):
    """The program with the statements of the called procedure in the place of a call."""
    _, called = statement_at(free, place, ("call",))
    return _program_with(free, place, 1, free[called])


def unrolled(free, place):
    """The program with a toss in the place of a repeat, which tells whether the repeat goes on."""
    repeat = statement_at(free, place, ("again",))
    _, stop, go, body = repeat
    return _program_with(free, place, 1, (("toss", (stop, ()), (go, body + (repeat,))),))


def scaled(free, place, many):
    """The program with all weights of a toss or a repeat times an integer."""
    statement = statement_at(free, place, ("toss", "again"))
    if not is_between(many, 1, MAX_WEIGHT):
        raise InvalidNumber(many)
    weights = [weight * many for weight in weights_of(statement)]
    return _program_with(free, place, 1, (with_weights(statement, weights),))


def lowered(free, place):
    """The program with all weights of a toss or a repeat divided by their greatest common divisor."""
    statement = statement_at(free, place, ("toss", "again"))
    divisor = 0
    for weight in weights_of(statement):
        divisor = gcd(divisor, weight)
    weights = [weight // divisor for weight in weights_of(statement)]
    return _program_with(free, place, 1, (with_weights(statement, weights),))


def merged(free, place):
    """The program with one branch for all branches of a toss that have equal bodies."""
    branches = statement_at(free, place, ("toss",))[1:]
    bodies = []
    for _, body in branches:
        if body not in bodies:
            bodies.append(body)
    if len(bodies) == 1:
        return _program_with(free, place, 1, bodies[0])
    found = [(sum([weight for weight, other in branches if other == body]), body) for body in bodies]
    return _program_with(free, place, 1, (("toss", *found),))


def flattened(free, place, branch):
    """The program in which the branches of a toss that is alone in a branch of another one are branches of that one."""
    branches = statement_at(free, place, ("toss",))[1:]
    if not is_between(branch, 0, len(branches) - 1):
        raise InvalidNumber(branch)
    weight, body = branches[branch]
    if len(body) != 1 or body[0][0] != "toss":
        raise InvalidOperation("the body of the branch is not one toss alone")
    total = sum(weights_of(body[0]))
    inner = tuple([(weight * other, part) for other, part in body[0][1:]])
    outer = tuple([(total * other, part) for other, part in branches])
    return _program_with(free, place, 1, (("toss",) + outer[:branch] + inner + outer[branch + 1:],))


def split_off(free, place, many, word):
    """The program with a new procedure that has so many statements, and a call of it in their place."""
    statement_at(free, place, WORDS)
    name, path = place
    body = _body_around(free, place)
    at = path[-1]
    if not is_between(many, 1, len(body) - at):
        raise InvalidNumber(many)
    if not is_name(word) or word in free:
        raise InvalidOperation("not a new name")
    less = with_part(free[name], path[:-1], _with_others(body, at, many, (("call", word),)))
    return _program_of({**free.bodies, name: less, word: body[at:at + many]})


def turned(free, place):
    """The program in which a statement and the next one are exchanged."""
    statement = statement_at(free, place, WORDS)
    rest = _body_around(free, place)[place[1][-1] + 1:]
    if len(rest) == 0:
        raise InvalidOperation("the statement is the last one")
    return _program_with(free, place, 2, (rest[0], statement))


def dropped(free, name):
    """The program of the procedures that this one reaches."""
    check_free(free)
    check_name(free, name)
    return Program.of({other: free[other] for other in reaches(free, name)})


def _body_around(free, place):
    name, path = place
    return part_within(free[name], path[:-1])


def _with_others(body, at, many, statements):
    return body[:at] + statements + body[at + many:]


def _program_with(free, place, many, statements):
    # With these in the place of so many statements from the place on.
    name, path = place
    body = _with_others(_body_around(free, place), path[-1], many, statements)
    return _program_of({**free.bodies, name: with_part(free[name], path[:-1], body)})


def _program_of(bodies):
    try:
        return Program.of(bodies)
    except InvalidProgram:
        raise InvalidOperation("the result would be no program") from None

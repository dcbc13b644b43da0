"""The parts of bodies that are known to be right: statements, and the bodies within them."""

from surelyends.numbers.integers import is_between


def bodies_in(statement):
    """The tuple of the bodies within a statement."""
    word = statement[0]
    if word == "toss":
        return tuple([body for _, body in statement[1:]])
    if word == "again":
        return (statement[3],)
    if word == "choose":
        return statement[1:]
    return ()


def with_bodies(statement, bodies):
    """The statement with as many other bodies within it."""
    word = statement[0]
    if word == "toss":
        return ("toss",) + tuple([(weight, body) for weight, body in zip(weights_of(statement), bodies)])
    if word == "again":
        return statement[:3] + bodies
    if word == "choose":
        return ("choose",) + bodies
    return statement


def weights_of(statement):
    """The tuple of the weights of what can be picked at a statement, by the number of the pick."""
    word = statement[0]
    if word == "toss":
        return tuple([weight for weight, _ in statement[1:]])
    if word == "again":
        return statement[1:3]
    return ()


def placed_statements(body, path=()):
    """A list of pairs (path, statement) of all statements in a body, ascending."""
    found = []
    for number, statement in enumerate(body):
        at = path + (number,)
        found.append((at, statement))
        for inner, part in enumerate(bodies_in(statement)):
            found.extend(placed_statements(part, at + (inner,)))
    return found


def statements_of(body, word):
    """A list of all statements of one sort in a body."""
    return [statement for _, statement in placed_statements(body) if statement[0] == word]


def part_within(body, path):
    """The statement or body at a path, or None if the path leads nowhere."""
    part = body
    is_in_body = True
    for number in path:
        parts = part if is_in_body else bodies_in(part)
        if not is_between(number, 0, len(parts) - 1):
            return None
        part = parts[number]
        is_in_body = not is_in_body
    return part


def with_part(body, path, part):
    """The body with another part at a path that leads somewhere."""
    if len(path) == 0:
        return part
    at = path[0]
    if len(path) == 1:
        return body[:at] + (part,) + body[at + 1:]
    inner = path[1]
    bodies = bodies_in(body[at])
    changed = with_part(bodies[inner], path[2:], part)
    statement = with_bodies(body[at], bodies[:inner] + (changed,) + bodies[inner + 1:])
    return body[:at] + (statement,) + body[at + 1:]


def bodies_by_choices(body):
    """A list of the bodies, without choices, of all ways to choose once and for all; some can be equal."""
    found = [()]
    for statement in body:
        further = _statements_by_choices(statement)
        found = [ahead + more for ahead in found for more in further]
    return found


def _statements_by_choices(statement):
    ways = [bodies_by_choices(body) for body in bodies_in(statement)]
    if statement[0] == "choose":
        return [body for bodies in ways for body in bodies]
    found = [()]
    for bodies in ways:
        found = [ahead + (body,) for ahead in found for body in bodies]
    return [(with_bodies(statement, bodies),) for bodies in found]


def with_weights(statement, weights):
    """The toss or repeat with as many other weights."""
    if statement[0] == "toss":
        return ("toss",) + tuple([(weight, body) for weight, (_, body) in zip(weights, statement[1:])])
    stop, go = weights
    return ("again", stop, go, statement[3])


def with_names(body, mapping):
    """The body with other names in its calls of procedures that the dict has."""
    return tuple([_renamed(statement, mapping) for statement in body])


def _renamed(statement, mapping):
    if statement[0] == "call":
        return ("call", mapping.get(statement[1], statement[1]))
    return with_bodies(statement, tuple([with_names(body, mapping) for body in bodies_in(statement)]))

"""Names, bodies and programs."""

from surelyends.errors import InvalidOperation, InvalidProgram, UnknownName
from surelyends.numbers.integers import is_between
from surelyends.programs.parts import bodies_in, part_within, placed_statements, statements_of, with_names, with_part

MAX_PROCEDURES = 8
MAX_STATEMENTS = 60
MAX_DEPTH = 4
MAX_WEIGHT = 99

MAX_LETTERS = 8
LETTERS = "abcdefghijklmnopqrstuvwxyz"


def is_name(value):
    """Whether the value is a name."""
    if not isinstance(value, str) or not is_between(len(value), 1, MAX_LETTERS):
        return False
    return all([letter in LETTERS for letter in value])


def is_body(value):
    """Whether the value is a body, alone, with at most 60 statements."""
    return _left_behind(value, MAX_DEPTH, MAX_STATEMENTS) is not None


def _left_behind(value, depth, left):
    # How many statements are left of so many behind a body, or None if the value is no body or has more.
    # The counting stops early, as a tuple that stands in many places can be far longer than it seems.
    if not isinstance(value, tuple) or len(value) > left:
        return None
    still = left - len(value)
    for statement in value:
        inner = _inner_of(statement)
        if inner is None or (len(inner) > 0 and depth == 0):
            return None
        for body in inner:
            still = _left_behind(body, depth - 1, still)
            if still is None:
                return None
    return still


def _inner_of(value):
    # What stands in the places of bodies, or None if the value is no statement, whatever stands there.
    if not isinstance(value, tuple) or len(value) == 0 or not isinstance(value[0], str):
        return None
    word, *parts = value
    if word in ("note", "call"):
        return [] if len(parts) == 1 and is_name(parts[0]) else None
    if word == "stay":
        return [] if len(parts) == 0 else None
    if word == "again":
        return parts[2:] if len(parts) == 3 and _is_weight(parts[0]) and _is_weight(parts[1]) else None
    if word == "choose":
        return parts if is_between(len(parts), 2, 3) else None
    if word == "toss" and is_between(len(parts), 2, 4) and all([_is_branch(part) for part in parts]):
        return [part[1] for part in parts]
    return None


def _is_branch(value):
    return isinstance(value, tuple) and len(value) == 2 and _is_weight(value[0])


def _is_weight(value):
    return is_between(value, 1, MAX_WEIGHT)


def _are_program(bodies):
    if not isinstance(bodies, dict) or not is_between(len(bodies), 1, MAX_PROCEDURES):
        return False
    if not all([is_name(name) and is_body(body) for name, body in bodies.items()]):
        return False
    if sum([len(placed_statements(body)) for body in bodies.values()]) > MAX_STATEMENTS:
        return False
    return all([name in bodies for body in bodies.values() for name in _names_called(body)])


def _names_called(body):
    return [name for _, name in statements_of(body, "call")]


class Given:
    """Bodies that `Program.of` hands to a new program.

    They cannot go as keywords, as a procedure may be called `self`; and nobody else can pass such an object.
    """

    def __init__(self, table):
        self.table = table


class Program:
    """Procedures with their bodies; it never changes."""

    def __init__(self, **bodies):
        given = bodies.get("_given")
        table = given.table if isinstance(given, Given) else bodies
        if not _are_program(table):
            raise InvalidProgram("these are not the procedures of a program")
        self._bodies = {name: table[name] for name in sorted(table)}
        placed = [
            (name, path, statement)
            for name, body in self._bodies.items()
            for path, statement in placed_statements(body)
        ]
        self._size = len(placed)
        self._events = tuple(sorted({statement[1] for _, _, statement in placed if statement[0] == "note"}))
        self._choices = tuple([(name, path) for name, path, statement in placed if statement[0] == "choose"])

    @staticmethod
    def of(bodies):
        """The program with the bodies of a dict."""
        return Program(_given=Given(bodies))

    @property
    def names(self):
        return tuple(self._bodies)

    @property
    def bodies(self):
        return dict(self._bodies)

    @property
    def events(self):
        return self._events

    @property
    def choices(self):
        return self._choices

    @property
    def is_closed(self):
        return len(self._choices) == 0

    def with_body(self, name, body):
        """The program with another body for a procedure, or with one procedure more."""
        if not is_name(name):
            raise InvalidProgram("not the name of a procedure")
        return Program.of({**self._bodies, name: body})

    def without(self, name):
        """The program without a procedure."""
        check_name(self, name)
        rest = {other: body for other, body in self._bodies.items() if other != name}
        if len(rest) == 0:
            raise InvalidOperation("it is the only procedure")
        if any([name in _names_called(body) for body in rest.values()]):
            raise InvalidOperation("another procedure calls it")
        return Program.of(rest)

    def renamed(self, mapping):
        """The program with other names of its procedures."""
        if not isinstance(mapping, dict) or len(mapping) != len(self._bodies):
            raise InvalidOperation("not a dict from just all procedures")
        if not all([name in mapping for name in self._bodies]):
            raise InvalidOperation("not a dict from just all procedures")
        names = list(mapping.values())
        if not all([is_name(name) for name in names]) or len(set(names)) < len(names):
            raise InvalidOperation("not different names")
        return Program.of({mapping[name]: with_names(body, mapping) for name, body in self._bodies.items()})

    def __or__(self, other):
        if not isinstance(other, Program):
            raise InvalidOperation("not a program")
        if any([name in self for name in other.names]):
            raise InvalidOperation("both have a procedure of this name")
        return Program.of({**self._bodies, **other._bodies})

    def __ror__(self, other):
        raise InvalidOperation("not a program")

    def __getitem__(self, at):
        check_name(self, at)
        return self._bodies[at]

    def __contains__(self, value):
        return isinstance(value, str) and value in self._bodies

    def __iter__(self):
        raise TypeError("a program cannot be iterated over")

    def __len__(self):
        return len(self._bodies)

    def __eq__(self, other):
        return isinstance(other, Program) and self._bodies == other._bodies

    def __str__(self):
        return f"program of {len(self._bodies)} procedures, {self._size} statements"


def check_free(free):
    """Refuse what is no program."""
    if not isinstance(free, Program):
        raise InvalidProgram("not a program")


def check_closed(program):
    """Refuse what is no program, or has choices."""
    check_free(program)
    if not program.is_closed:
        raise InvalidProgram("the program has choices")


def check_name(free, name):
    """Refuse what is not the name of a procedure of the program."""
    if name not in free:
        raise UnknownName(name)


def part_at(free, place):
    """The statement or body at a place."""
    check_free(free)
    return _part_of(free, place)


def _part_of(free, place):
    if not isinstance(place, tuple) or len(place) != 2:
        raise InvalidOperation("not a place")
    name, path = place
    if name not in free or not isinstance(path, tuple):
        raise InvalidOperation("not a place of this program")
    part = part_within(free[name], path)
    if part is None:
        raise InvalidOperation("nothing stands at this place")
    return part


def statement_at(free, place, words):
    """The statement at a place, which begins with one of these words."""
    part = part_at(free, place)
    # Paths of bodies are of even length.
    if len(place[1]) % 2 == 0 or part[0] not in words:
        raise InvalidOperation("no such statement stands at this place")
    return part


def put_at(free, place, part):
    """The program with another statement or body at a place."""
    check_free(free)
    _part_of(free, place)
    name, path = place
    return free.with_body(name, with_part(free[name], path, part))


def calls_of(free, name):
    """The ascending tuple of the procedures that a procedure calls."""
    check_free(free)
    check_name(free, name)
    return tuple(sorted(set(_names_called(free[name]))))


def is_whole(free, name):
    """Whether there is no "stay" in the body of a procedure."""
    check_free(free)
    check_name(free, name)
    return len(statements_of(free[name], "stay")) == 0


def can_end(program):
    """The ascending tuple of the procedures that can end."""
    check_closed(program)
    return always_able(program)


def always_able(free):
    """The ascending tuple of the procedures that can end by each choice that is made once and for all."""
    able = []
    found = _able_more(free, able)
    while len(found) > 0:
        able.extend(found)
        found = _able_more(free, able)
    return tuple(sorted(able))


def _able_more(free, able):
    return [name for name in free.names if name not in able and _body_can_end(free[name], able)]


def _body_can_end(body, able):
    return all([_statement_can_end(statement, able) for statement in body])


def _statement_can_end(statement, able):
    word = statement[0]
    if word == "call":
        return statement[1] in able
    if word == "toss":
        return any([_body_can_end(body, able) for body in bodies_in(statement)])
    if word == "choose":
        return all([_body_can_end(body, able) for body in bodies_in(statement)])
    return word != "stay"

"""What several tests share: strange values, drawn programs, and a run that is written out once more."""

import fractions
import math

from surelyends.errors import InvalidProgram
from surelyends.live.book import Book
from surelyends.numbers.fractions import Fraction
from surelyends.programs.programs import Program
from surelyends.programs.texts import read_program
from surelyends.runs.runs import ended_runs
from surelyends.runs.tosser import Tosser
from surelyends.text.shell import Shell

PAIRS = read_program("x = [1: | 1: !a x x]")
GROWS = read_program("x = [1: | 2: x x]")
TURNS = read_program("x = [3: | 1: y y]\ny = [1: !a | 1: x]")
LEAKS = read_program("x = [1: !a | 1: x z]\nz = [9: | 1: ~]")
PICKS = read_program("x = [1: | 1: <!a x | x x>]")


def deep(value, many=15):
    for _ in range(many):
        value = (value,)
    return value


# Values of every kind that can be passed, and of every kind that the package returns.
STRANGE = (
    True, False, None, 0, 1, -1, 2, 99, 100, 10 ** 999, -(10 ** 999), "", "x", "X", "x y", "a" * 9, "\n", "~", "1",
    (), ((),), (((),),), (1,), (1, 2), ("x",), ("x", ()), ("x", (0,)), ("x", "y"), (True,), ("stay",), (("stay",),),
    ("note", "a"), (("note", "a"),), (None,), ([],), ({},), ("x", []), [], [1], [[1]], ["x"], [("x", ())], {},
    {"x": ()}, {"x": 1}, {1: 2}, {(): []}, {None: None}, {"x": {"x": 1}}, deep(1), deep("x"), deep([]),
    Fraction(1), Fraction(1, 2), Fraction(-3), (Fraction(1, 2),), ((Fraction(1, 2),),), [Fraction(1, 2)],
    PAIRS, PICKS, (PAIRS,), {"x": PAIRS}, PAIRS["x"], PAIRS.bodies, PICKS.choices, Tosser(PAIRS, "x"),
    Tosser(PAIRS, "x").trial(), ended_runs(PAIRS, "x", 3), ((0,), 1, 1, ()), ("solution", (1,)), ("fit", (1,)),
    ("falling", (1,)), ("none", (1,)), ("bar", (1,)), ("kept", (1,)), ("toss", (1, ()), (1, ())), ("again", 1, 1, ()),
    {"x": Fraction(1, 2)}, {"x": Fraction(3, 2)}, {"x": -1}, {"x": True}, {"x": 1, "y": 1}, {"a": 1}, {"a": 100}, {"a": -1},
    {"x": {"x": Fraction(1, 2)}}, ("x", 1), (("x", 1),), (("x", Fraction(1, 2)),), (("x", 1), ("x", 1)), (("x", 1, 1),),
    ("sure", ()), ("sure", ((),)), ("sure", ((("x", 1),),)), ("sure", ((("x", 0),),)), ("sure", (), ()), ("sure",),
    ("unsure", ()), ("unsure", (("x", 0),)), ("unsure", (("x", Fraction(1, 2)),)), ("unsure", (("x", 1),)),
    ("between", (), ()), ("between", (), (("x", 0, Fraction(1, 2)),)), ("between", ((("x", 1),),), (("x", 1, 1),)),
    ("steady", (("x", 1),)), ("growing", (("x", 1),)), ("steady", ()), ("finite", ()), ("finite", (("x", 1, 1),)),
    ("endless", (("x", 1),)), ("endless", ()), ("spread", (("x", 1, 0, 1),)), ("spread", ()), ("upto", Fraction(1, 2)), ("all",),
    {("x", (0, 1, 0)): 1}, ("always", ((("x", 1),),)), ("spoilt", (), (("x", Fraction(1, 2)),)), ("spoilt", ((("x", (0, 1, 0)), 1),), (("x", Fraction(1, 2)),)),
    ("stop", (), ((("x", 1),),), ()), ("stop", ("y",), (), ()), ("finite", Fraction(1, 3)), ("unsure",), ("x", None, ("endless",)),
    ("set", "x", ()), ("drop", "x"), ("rename", "x", "y"), ("price", "a", 1),
    Book(), Book().trial(), Book().news(), {"x": ("endless",)}, Shell(), Shell().run_all(("names",)),
)


def program_of(text):
    """A program whose lines can stand in any order."""
    return read_program("\n".join(sorted(text.replace("= \n", "=\n").split("\n"))))


def without_fractions():
    return [value for value in STRANGE if not isinstance(value, Fraction) and not is_integer(value)]


def is_integer(value):
    return isinstance(value, int) and value is not True and value is not False


def as_python(value):
    """A fraction as one of the standard library, by which the tests count."""
    if isinstance(value, Fraction):
        return fractions.Fraction(value.top, value.bottom)
    return fractions.Fraction(value)


def as_own(value):
    value = fractions.Fraction(value)
    return Fraction(value.numerator, value.denominator)


def raised(error_class, call, *passed, **more):
    """The error that a call raises, of just this class, or a failed assertion."""
    try:
        result = call(*passed, **more)
    except Exception as error:
        assert type(error) is error_class, (type(error), error_class, passed, more)
        return error
    raise AssertionError((error_class, "is not raised", result, passed, more))


def drawn_weight(draw):
    return draw.choice((1, 1, 1, 2, 3, draw.randint(1, 99)))


def drawn_body(draw, names, depth, most, closed=True):
    body = []
    for _ in range(draw.randint(0, most)):
        sort = draw.random()
        if sort < 0.25:
            body.append(("note", draw.choice(("a", "b", "event"))))
        elif sort < 0.5 or depth == 0:
            body.append(("call", draw.choice(names)))
        elif sort < 0.53:
            body.append(("stay",))
        else:
            body.append(drawn_nesting(draw, names, depth - 1, most, closed))
    return tuple(body)


def drawn_nesting(draw, names, depth, most, closed):
    sort = draw.random()
    if sort < 0.3:
        return ("again", drawn_weight(draw), drawn_weight(draw), drawn_body(draw, names, depth, most, closed))
    many = draw.choice((2, 2, 3, 4))
    bodies = [drawn_body(draw, names, depth, most, closed) for _ in range(many)]
    if sort < 0.5 and not closed:
        return ("choose",) + tuple(bodies[:3])
    return ("toss",) + tuple((drawn_weight(draw), body) for body in bodies)


def drawn_program(draw, closed=True, most=3, depth=4):
    while True:
        names = draw.sample(("x", "y", "z", "self", "abcdefgh", "of"), draw.randint(1, 4))
        bodies = {name: drawn_body(draw, names, draw.randint(0, depth), most, closed) for name in names}
        try:
            return Program.of(bodies)
        except InvalidProgram:
            continue


def all_parts(body, path=()):
    """All parts of a body with their paths, bodies and statements, as [3.1] tells them."""
    yield path, body
    for number, statement in enumerate(body):
        yield path + (number,), statement
        bodies = ()
        if statement[0] == "toss":
            bodies = [branch[1] for branch in statement[1:]]
        elif statement[0] == "choose":
            bodies = statement[1:]
        elif statement[0] == "again":
            bodies = statement[3:]
        for inner, within in enumerate(bodies):
            yield from all_parts(within, path + (number, inner))


CLOSE = ("close",)


class PlainRun:
    """A run as [5.1] tells it, that keeps what is still to be done in one list, the next thing at its end."""

    def __init__(self, bodies, name):
        self.bodies = bodies
        self.todo = [CLOSE]
        self.depth = self.deepest = 1
        self.picks = ()
        self.notes = ()
        self.steps = 0
        self.chance = fractions.Fraction(1)
        self.put(bodies[name])
        self.leave()

    def put(self, statements):
        self.todo.extend(reversed(statements))

    def leave(self):
        while self.todo and self.todo[-1] == CLOSE:
            self.todo.pop()
            self.depth -= 1

    def copy(self):
        other = PlainRun.__new__(PlainRun)
        other.__dict__.update(self.__dict__)
        other.todo = list(self.todo)
        return other

    @property
    def left(self):
        return self.todo[-1] if self.todo else None

    @property
    def weights(self):
        if self.left is None:
            return ()
        if self.left[0] == "toss":
            return tuple(branch[0] for branch in self.left[1:])
        return self.left[1:3] if self.left[0] == "again" else ()

    def step(self):
        word, *rest = self.todo[-1]
        self.steps += 1
        if word == "stay":
            return
        self.todo.pop()
        if word == "note":
            self.notes += tuple(rest)
        else:
            self.depth += 1
            self.deepest = max(self.deepest, self.depth)
            self.todo.append(CLOSE)
            self.put(self.bodies[rest[0]])
        self.leave()

    def pick(self, number):
        statement = self.todo[-1]
        self.chance *= fractions.Fraction(self.weights[number], sum(self.weights))
        self.steps += 1
        self.picks += (number,)
        if statement[0] == "toss":
            self.todo.pop()
            self.put(statement[1 + number][1])
        elif number == 0:
            self.todo.pop()
        else:
            self.put(statement[3])
        self.leave()

    def told(self):
        return (self.picks, self.steps, self.deepest, self.notes)


def plain_runs(bodies, name, most):
    """All runs that end after at most so many steps, and how many tuples of picks can be made in them."""
    ended = []
    many = 0
    waiting = [PlainRun(bodies, name)]
    while waiting:
        run = waiting.pop(0)
        many += 1
        while run.left is not None and not run.weights and run.steps < most:
            run.step()
        if run.left is None:
            ended.append(run)
        elif run.steps < most:
            for number in range(len(run.weights)):
                further = run.copy()
                further.pick(number)
                waiting.append(further)
    return sorted(ended, key=lambda run: run.picks), many


def drawn_small_body(draw, names):
    """A toss between no call and some calls, with small weights, so that knots are often even."""
    calls = tuple(("call", draw.choice(names)) for _ in range(draw.randint(0, 3)))
    sort = draw.random()
    if sort < 0.1:
        return calls
    if sort < 0.2:
        return (("again", draw.randint(1, 3), draw.randint(1, 3), calls[:1]),)
    more = draw.choice(((), (), (("stay",),), calls[:1], (("note", "a"),)))
    return (("toss", (draw.randint(1, 4), more), (draw.randint(1, 2), calls + (("note", "b"),))),)


def drawn_small_program(draw):
    names = draw.sample(("a", "b", "c", "d", "e"), draw.randint(1, 4))
    return Program.of({name: drawn_small_body(draw, names) for name in names})


PRIMES = [number for number in range(2, 98) if all(number % divisor for divisor in range(2, number))]


def edge_line(name, called, primes, above):
    """A line of a procedure with 1 + above / (many * product of the primes) mean calls of another one.

    Each toss has a prime as the sum of its weights; all shares together are many, but for the least part.
    """
    product = math.prod(primes)
    weights = [above * pow(product // prime, -1, prime) % prime for prime in primes]
    many = sum(fractions.Fraction(weight, prime) for weight, prime in zip(weights, primes))
    many -= fractions.Fraction(above, product)
    assert many.denominator == 1 and 1 <= many <= 100 and all(weights)
    tosses = " ".join(f"[{weight}: {called} | {prime - weight}:]" for weight, prime in zip(weights, primes))
    return f"{name} = {tosses}" if many == 1 else f"{name} = [{many - 1}: | 1: {tosses}]"

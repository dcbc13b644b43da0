import itertools
import math
import random
import unittest

import plain
from helpers import (
    GROWS,
    PAIRS,
    PICKS,
    STRANGE,
    TURNS,
    all_parts,
    as_python,
    drawn_program,
    drawn_small_program,
    is_integer,
    program_of,
    raised,
)
from order import check_errors, strange_but
from surelyends.change.rewrites import dropped, flattened, inlined, lowered, merged, scaled, split_off, turned, unrolled
from surelyends.errors import InvalidNumber, InvalidOperation, InvalidProgram, TooMany, UnknownName
from surelyends.means.means import means_of
from surelyends.numbers.fractions import Fraction
from surelyends.papers.verdicts import sure_procedures
from surelyends.programs.programs import Program
from surelyends.programs.texts import program_text, read_body, read_program
from surelyends.runs.runs import chance_of, ended_runs
from test_endless import drawn_tree
from test_means import NO_NAMES

NO_PROGRAMS = strange_but(lambda value: isinstance(value, Program))
# A word of at most two events, as a tuple.
WORDS = [word for many in range(3) for word in itertools.product("ab", repeat=many)]


def statements_of(program):
    """All pairs (place, statement)."""
    return [((name, path), part) for name, body in program.bodies.items() for path, part in all_parts(body) if len(path) % 2]


def body_around(bodies, place):
    return plain.part_at(bodies, (place[0], place[1][:-1]))


def changed_body(body, path, change):
    """The body in which the body on a path, which is of even length, is changed by a function."""
    if not path:
        return change(body)
    at, inner, *further = path
    parts = list(plain.bodies_of(body[at]))
    parts[inner] = changed_body(parts[inner], further, change)
    return body[:at] + (plain.with_bodies(body[at], parts),) + body[at + 1:]


def replaced(bodies, place, many, statements):
    name, path = place
    at = path[-1]
    return {**bodies, name: changed_body(bodies[name], path[:-1], lambda body: body[:at] + statements + body[at + many:])}


# The rules once more: each returns bodies, or None if the call is to be refused whatever comes out.

def plain_inlined(bodies, place, statement):
    return replaced(bodies, place, 1, bodies[statement[1]]) if statement[0] == "call" else None


def plain_unrolled(bodies, place, statement):
    if statement[0] != "again":
        return None
    return replaced(bodies, place, 1, (("toss", (statement[1], ()), (statement[2], statement[3] + (statement,))),))


def reweighted(bodies, place, statement, change):
    if statement[0] == "toss":
        return replaced(bodies, place, 1, (("toss",) + tuple((change(weight), body) for weight, body in statement[1:]),))
    if statement[0] == "again":
        return replaced(bodies, place, 1, (("again", change(statement[1]), change(statement[2]), statement[3]),))
    return None


def plain_scaled(bodies, place, statement, many):
    return reweighted(bodies, place, statement, lambda weight: weight * many)


def plain_lowered(bodies, place, statement):
    weights = [weight for weight, _ in statement[1:]] if statement[0] == "toss" else statement[1:3]
    return reweighted(bodies, place, statement, lambda weight: weight // math.gcd(*weights))


def plain_merged(bodies, place, statement):
    if statement[0] != "toss":
        return None
    sums = {}
    for weight, body in statement[1:]:
        sums[body] = sums.get(body, 0) + weight
    if len(sums) == 1:
        return replaced(bodies, place, 1, statement[1][1])
    return replaced(bodies, place, 1, (("toss",) + tuple((weight, body) for body, weight in sums.items()),))


def plain_flattened(bodies, place, statement, branch):
    if statement[0] != "toss" or len(statement[1 + branch][1]) != 1 or statement[1 + branch][1][0][0] != "toss":
        return None
    weight, (inner,) = statement[1 + branch]
    total = sum(other for other, _ in inner[1:])
    branches = []
    for number, (other, body) in enumerate(statement[1:]):
        if number == branch:
            branches += [(weight * one, part) for one, part in inner[1:]]
        else:
            branches.append((other * total, body))
    return replaced(bodies, place, 1, (("toss",) + tuple(branches),))


def plain_split_off(bodies, place, _, many, word):
    at = place[1][-1]
    part = body_around(bodies, place)[at:at + many]
    if word in bodies or len(part) != many:
        return None
    return {**replaced(bodies, place, many, (("call", word),)), word: part}


def plain_turned(bodies, place, statement):
    rest = body_around(bodies, place)[place[1][-1] + 1:]
    return replaced(bodies, place, 2, (rest[0], statement)) if rest else None


# What runs note

def joined(one, other):
    found = {word: 0.0 for word in WORDS}
    for word in WORDS:
        found[word] = sum(one[word[:at]] * other[word[at:]] for at in range(len(word) + 1))
    return found


def word_chances(body, told):
    """The chances that a body is gone through with these events alone, by those of procedures."""
    found = {word: float(word == ()) for word in WORDS}
    for statement in body:
        found = joined(found, of_statement(statement, told))
    return found


def of_statement(statement, told):
    if statement[0] == "note":
        return {word: float(word == (statement[1],)) for word in WORDS}
    if statement[0] == "stay":
        return {word: 0.0 for word in WORDS}
    if statement[0] == "call":
        return told[statement[1]]
    if statement[0] == "toss":
        parts = [(float(share), word_chances(body, told)) for share, body in plain.parts_of(statement)]
        return {word: sum(share * part[word] for share, part in parts) for word in WORDS}
    _, stop, go, body = statement
    part, on = word_chances(body, told), go / (stop + go)
    found = {}
    for word in WORDS:
        behind = sum(part[word[:at]] * found[word[at:]] for at in range(1, len(word) + 1))
        found[word] = (float(word == ()) * (1 - on) + on * behind) / (1 - on * part[()])
    return found


def chances_of_words(program):
    """Nearly the chances of words of at most two events for each procedure, or None where rounds do not come to rest."""
    found = {name: {word: 0.0 for word in WORDS} for name in program.names}
    for _ in range(300):
        further = {name: word_chances(program[name], found) for name in program.names}
        moved = max(abs(further[name][word] - found[name][word]) for name in program.names for word in WORDS)
        found = further
        if moved < 1e-14:
            return found
    return None


def with_two_events(program):
    """The program with no other events than a and b."""
    return read_program(program_text(program).replace("!event", "!b"))


class RewritesTest(unittest.TestCase):
    def setUp(self):
        self.draw = random.Random(191)

    def check(self, program, expected, call, *told):
        """The result, if a program is expected, otherwise None; `expected` is told by bodies."""
        before = program.bodies
        try:
            whole = None if expected is None else Program.of(expected)
        except InvalidProgram:
            whole = None
        if whole is None:
            raised(InvalidOperation, call, program, *told)
            return None
        result = call(program, *told)
        self.assertEqual(result, whole)
        self.assertEqual(program.bodies, before)
        return result

    def check_kept(self, program, result, turned_round=False):
        if not program.is_closed:
            return False
        prices = {"a": 3, "b": 5}
        means = means_of(result, prices)
        self.assertEqual({name: means.get(name, "unsure") for name in program.names},
                         {name: means_of(program, prices).get(name, "unsure") for name in program.names})
        before, behind = chances_of_words(program), chances_of_words(result)
        if before is None or behind is None:
            return False
        for name in program.names:
            if not turned_round:
                for word in WORDS:
                    self.assertAlmostEqual(before[name][word], behind[name][word], delta=1e-9)
        return True

    def every_change(self, program):
        """All tuples (call, rule, arguments) at all places."""
        words = ("new", program.names[0], "n")
        for place, statement in statements_of(program):
            for call, rule in ((inlined, plain_inlined), (unrolled, plain_unrolled), (lowered, plain_lowered), (merged, plain_merged),
                               (turned, plain_turned)):
                yield call, rule, (place,), statement
            yield scaled, plain_scaled, (place, self.draw.choice((1, 2, 3, 99))), statement
            if statement[0] == "toss":
                for branch in range(len(statement) - 1):
                    yield flattened, plain_flattened, (place, branch), statement
            left = len(body_around(program.bodies, place)) - place[1][-1]
            for many in range(1, left + 1):
                yield split_off, plain_split_off, (place, many, self.draw.choice(words)), statement

    def test_every_place(self):
        found = {}
        kept = 0
        for _ in range(140):
            program = with_two_events(self.draw.choice((drawn_program, drawn_small_program, drawn_rich, drawn_rich, drawn_rich))(self.draw))
            if self.draw.random() < 0.3:
                program = with_two_events(drawn_program(self.draw, False))
            for call, rule, told, statement in self.every_change(program):
                result = self.check(program, rule(program.bodies, told[0], statement, *told[1:]), call, *told)
                counted = found.setdefault(call.__name__, [0, 0])
                counted[result is None] += 1
                if result is not None and self.draw.random() < 0.15:
                    kept += self.check_kept(program, result, call is turned)
        for name, (right, refused) in found.items():
            self.assertGreater(right, 20, name)
            self.assertGreater(refused, 20, name)
        self.assertGreater(kept, 200)

    def test_all_runs_of_trees(self):
        many = 0
        for _ in range(40):
            program = drawn_tree(self.draw)
            for call, rule, told, statement in self.every_change(program):
                expected = rule(program.bodies, told[0], statement, *told[1:])
                if expected is None or call is turned:
                    continue
                try:
                    result = call(program, *told)
                except InvalidOperation:
                    continue
                before, behind = (self.notes_of_runs(one, told[0][0]) for one in (program, result))
                if before is not None and behind is not None:
                    self.assertEqual(before, behind)
                    many += 1
        self.assertGreater(many, 100)

    def notes_of_runs(self, program, name):
        try:
            runs = list(ended_runs(program, name, 12))
        except TooMany:
            return None
        found = {}
        for run in runs:
            found[run[3]] = found.get(run[3], 0) + as_python(chance_of(program, name, run[0]))
        return found if sum(found.values()) == 1 else None

    def test_dropped(self):
        for _ in range(80):
            program = drawn_program(self.draw, self.draw.random() < 0.7)
            for name in program.names:
                result = dropped(program, name)
                self.assertEqual(result.names, plain.reach(program.bodies, name))
                self.assertTrue(all(result[other] == program[other] for other in result.names))
        self.assertEqual(dropped(PICKS, "x"), PICKS)

    def test_there_and_back(self):
        back = 0
        for _ in range(60):
            program = drawn_program(self.draw, self.draw.random() < 0.7)
            for place, statement in statements_of(program):
                left = len(body_around(program.bodies, place)) - place[1][-1]
                many = self.draw.randint(1, left)
                try:
                    result = split_off(program, place, many, "new")
                except InvalidOperation:
                    continue
                # While both the call and the new procedure are there, the statements stand there twice.
                if sum(len(list(plain.statements_in(body))) for body in (*program.bodies.values(), result["new"])) <= 60:
                    self.assertEqual(inlined(result, place).without("new"), program)
                    back += 1
                if left > 1:
                    self.assertEqual(turned(turned(program, place), place), program)
                if statement[0] in ("toss", "again"):
                    low = lowered(program, place)
                    self.assertEqual(lowered(low, place), low)
                    if max(plain_weights(plain.part_at(low.bodies, place))) <= 33:
                        self.assertEqual(lowered(scaled(low, place, 3), place), low)
                    self.assertEqual(scaled(program, place, 1), program)
        self.assertGreater(back, 100)


def plain_weights(statement):
    return [weight for weight, _ in statement[1:]] if statement[0] == "toss" else statement[1:3]


def drawn_rich(draw):
    """A program with tosses within tosses, equal branches and weights with divisors in common."""
    leaves = ("", "!a", "x", "y", "!b !b", "[2: | 4: !a]", "[1: | 2: !b]", "[3: !b | 9: x]", "{4/6: !a}", "{2/2: [1: !a | 1:]}", "y y")
    lines = []
    for name in "xy":
        branches = []
        for _ in range(draw.randint(2, 4)):
            weight = draw.choice((2, 2, 4, 6, 12, 33, 50))
            branches.append(f"{weight}: {draw.choice(leaves)}".rstrip(" "))
        rest = draw.choice(leaves)
        lines.append(f"{name} = [{' | '.join(branches)}] {rest}".rstrip(" "))
    return read_program("\n".join(lines))


class LimitsTest(unittest.TestCase):
    def check(self, text, call, *told):
        """The text behind a change, or None if it is refused."""
        program = program_of(text)
        try:
            return program_text(call(program, *told))
        except InvalidOperation:
            return None

    def test_weights(self):
        x = ("x", (0,))
        for text, call, told, expected in (
                ("x = [33: | 1:]", scaled, (3,), "x = [99: | 3:]"), ("x = [33: | 1:]", scaled, (4,), None), ("x = {1/1:}", scaled, (99,), "x = {99/99:}"),
                ("x = {1/2: !a}", scaled, (50,), None), ("x = {49/2: !a}", scaled, (2,), "x = {98/4: !a}"), ("x = [50: | 1: !a | 49:]", merged, (), "x = [99: | 1: !a]"),
                ("x = [50: | 1: !a | 50:]", merged, (), None), ("x = [50: !a | 50: !a]", merged, (), "x = !a"), ("x = [99: | 99:] !b", merged, (), "x = !b"),
                ("x = [99: !a x | 99: !a x | 99: !a x | 99: !a x]", merged, (), "x = !a x"), ("x = [1: | 2: !a | 3: | 4: !a]", merged, (), "x = [4: | 6: !a]"),
                ("x = [1: | 2: !a | 3: x | 4: !a]", merged, (), "x = [1: | 6: !a | 3: x]"), ("x = [1: | 2: !a]", merged, (), "x = [1: | 2: !a]"),
                ("x = [1: | 9: [5: !a | 6: x]]", flattened, (1,), "x = [11: | 45: !a | 54: x]"), ("x = [1: | 9: [5: !a | 11: x]]", flattened, (1,), "x = [16: | 45: !a | 99: x]"),
                ("x = [1: | 9: [5: !a | 12: x]]", flattened, (1,), None), ("x = [9: | 9: [5: !a | 6: x]]", flattened, (1,), "x = [99: | 45: !a | 54: x]"),
                ("x = [9: | 9: [5: !a | 7: x]]", flattened, (1,), None), ("x = [6: | 4: [10: !a | 20: x]]", lowered, (), "x = [3: | 2: [10: !a | 20: x]]"),
                ("x = [12: | 18: | 30:]", lowered, (), "x = [2: | 3: | 5:]"), ("x = {98/42: x}", lowered, (), "x = {7/3: x}"), ("x = [1: | 1:]", lowered, (), "x = [1: | 1:]"),
                ("x = {99/99:}", lowered, (), "x = {1/1:}"), ("x = [7: | 5:]", lowered, (), "x = [7: | 5:]"),
        ):
            self.assertEqual(self.check(text, call, x, *told), expected, text)

    def test_branches(self):
        for text, branch, expected in (
                ("x = [1: | 1: [1: | 1: !a | 1: !b]]", 1, "x = [3: | 1: | 1: !a | 1: !b]"), ("x = [1: | 1: | 1: [1: | 1: !a]]", 2, "x = [2: | 2: | 1: | 1: !a]"),
                ("x = [1: | 1: | 1: [1: | 1: !a | 1:]]", 2, None), ("x = [1: | 1: | 1: | 1: [1: | 1: !a]]", 3, None), ("x = [1: | 1: [1: | 1: | 1: | 1: !a]]", 1, None),
                ("x = [2: [1: | 3: !a] | 5: [1: | 1:]]", 0, "x = [2: | 6: !a | 20: [1: | 1:]]"), ("x = [2: [1: | 3: !a] | 5: [1: | 1:]]", 1, "x = [4: [1: | 3: !a] | 5: | 5:]"),
                ("x = [2: [1: | 3: !a] !a | 5:]", 0, None), ("x = [2: {1/3: !a} | 5:]", 0, None), ("x = [2: | 5: x]", 0, None), ("x = [2: | 5: x]", 1, None),
                ("x = [2: < | !a> | 5: x]", 0, None), ("x = [1: [1: [1: | 1: !a] | 1:] | 1:]", 0, "x = [1: [1: | 1: !a] | 1: | 2:]"),
        ):
            self.assertEqual(self.check(text, flattened, ("x", (0,)), branch), expected, text)

    def test_depth(self):
        for text, call, told, expected in (
                ("x = {1/1: {1/1: {1/1: {1/1:}}}}", unrolled, (("x", (0,)),), None),
                ("x = {1/1: {1/1: {1/1:}}}", unrolled, (("x", (0,)),), "x = [1: | 1: {1/1: {1/1:}} {1/1: {1/1: {1/1:}}}]"),
                ("x = {1/1: {1/1: {1/1: {1/1:}}}}", unrolled, (("x", (0, 0, 0, 0, 0, 0, 0)),), None),
                ("x = {1/1: {1/1: {1/2: !a}}}", unrolled, (("x", (0, 0, 0, 0, 0)),), "x = {1/1: {1/1: [1: | 2: !a {1/2: !a}]}}"),
                ("x = [1: | 1: [1: | 1: y]]\ny = {1/1: {1/1: !a}}", inlined, (("x", (0, 1, 0, 1, 0)),), "x = [1: | 1: [1: | 1: {1/1: {1/1: !a}}]]\ny = {1/1: {1/1: !a}}"),
                ("x = [1: | 1: [1: | 1: {1/1: y}]]\ny = {1/1: {1/1: !a}}", inlined, (("x", (0, 1, 0, 1, 0, 0, 0)),), None),
                ("x = [1: | 1: [1: | 1: {1/1: {1/1: y}}]]\ny = !a", inlined, (("x", (0, 1, 0, 1, 0, 0, 0, 0, 0)),), "x = [1: | 1: [1: | 1: {1/1: {1/1: !a}}]]\ny = !a"),
                ("x = {1/1: {1/1: {1/1: {1/1: !a}}}}", split_off, (("x", (0, 0, 0)), 1, "y"), "x = {1/1: y}\ny = {1/1: {1/1: {1/1: !a}}}"),
        ):
            self.assertEqual(self.check(text, call, *told), expected, text)

    def test_statements(self):
        notes = " ".join(["!a"] * 29)
        self.assertEqual(self.check(f"x = y !b !b\ny = {notes}", inlined, ("x", (0,))), f"x = {notes} !b !b\ny = {notes}")
        self.assertIsNone(self.check(f"x = y !b !b !b\ny = {notes}", inlined, ("x", (0,))))
        self.assertEqual(self.check(f"x = {notes} !b {notes}", split_off, ("x", (0,)), 29, "y"), f"x = y !b {notes}\ny = {notes}")
        self.assertIsNone(self.check(f"x = {notes} !b !b {notes}", split_off, ("x", (0,)), 29, "y"))
        half = " ".join(["!a"] * 28)
        self.assertIsNotNone(self.check("x = {1/1: %s}" % half, unrolled, ("x", (0,))))
        self.assertIsNotNone(self.check("x = !b {1/1: %s}" % half, unrolled, ("x", (1,))))
        self.assertIsNotNone(self.check("x = !b !b {1/1: %s}" % half, unrolled, ("x", (2,))))
        self.assertIsNone(self.check("x = !b !b !b {1/1: %s}" % half, unrolled, ("x", (3,))))

    def test_procedures(self):
        lines = [f"{name} = !a !b" for name in "abcdefg"]
        self.assertEqual(self.check("\n".join(lines), split_off, ("c", (1,)), 1, "z"), "\n".join(lines[:2] + ["c = !a z"] + lines[3:] + ["z = !b"]))
        self.assertIsNone(self.check("\n".join(lines + ["h ="]), split_off, ("c", (1,)), 1, "z"))

    def test_texts(self):
        for text, call, told, expected in (
                ("x = !a y !b\ny = x ~", inlined, (("x", (1,)),), "x = !a x ~ !b\ny = x ~"), ("x = y\ny =", inlined, (("x", (0,)),), "x =\ny ="),
                ("x = !a x !b", inlined, (("x", (1,)),), "x = !a !a x !b !b"), ("x = {2/5:}", unrolled, (("x", (0,)),), "x = [2: | 5: {2/5:}]"),
                ("x = !a ~ x !b", split_off, (("x", (1,)), 2, "self"), "self = ~ x\nx = !a self !b"), ("x = !a", split_off, (("x", (0,)), 1, "y"), "x = y\ny = !a"),
                ("x = < | !a x !b>", split_off, (("x", (0, 1, 1)), 1, "y"), "x = < | !a y !b>\ny = x"), ("x = < | !a x !b>", turned, (("x", (0, 1, 1)),), "x = < | !a !b x>"),
                ("x = ~ !a", turned, (("x", (0,)),), "x = !a ~"), ("x = !a", turned, (("x", (0,)),), None), ("x = !a !b", turned, (("x", (1,)),), None),
                ("x = !a [1: | 1: x] !b", turned, (("x", (0,)),), "x = [1: | 1: x] !a !b"), ("x = y\ny = z\nz =", inlined, (("x", (0,)),), "x = z\ny = z\nz ="),
                ("x = {1/1: !a !b}", turned, (("x", (0, 0, 0)),), "x = {1/1: !b !a}"), ("x = [1: [1: !a | 1: !a] | 1:]", merged, (("x", (0, 0, 0)),), "x = [1: !a | 1:]"),
        ):
            self.assertEqual(self.check(text, call, *told), expected, text)
        self.assertEqual(dropped(read_program("x = x\ny = x z\nz = !a"), "y").names, ("x", "y", "z"))
        self.assertEqual(program_text(dropped(read_program("x = x\ny = x z\nz = !a"), "z")), "z = !a")


class ErrorsTest(unittest.TestCase):
    FREE = read_program("x = [1: [1: | 2: !a x] | 1: {1/1: x}] y\ny = <x | > ~ !b")

    def no_places(self, *words):
        right = [place for place, statement in statements_of(self.FREE) if statement[0] in words]
        places = [place for place, _ in statements_of(self.FREE) if place not in right]
        places += [(name, path) for name, body in self.FREE.bodies.items() for path, _ in all_parts(body) if len(path) % 2 == 0]
        places += [("z", (0,)), ("x", (5,)), ("x", [0]), ["x", (0,)], ("x", (0,), 0), ("x", (-1,)), ("x", (False,)), ("x", (True,)),
                   ("x", (Fraction(0),)), ("x", (0, 0, 0, 2, 0, 0)), ("x", ((0,),))]
        return [value for value in strange_but(lambda value: value in right) + places if value not in right or repr(value).count("F")]

    def test_places(self):
        for call, words, place in ((inlined, ("call",), ("x", (1,))), (unrolled, ("again",), ("x", (0, 1, 0))), (lowered, ("toss", "again"), ("x", (0,))),
                                   (merged, ("toss",), ("x", (0,))), (turned, ("note", "call", "toss", "again", "choose", "stay"), ("x", (0,)))):
            check_errors(call, (self.FREE, NO_PROGRAMS, InvalidProgram), (place, self.no_places(*words), InvalidOperation))
        for place in (("x", (1,)), ("y", (2,)), ("x", (0, 0, 0)), ("x", (0, 0, 0, 1, 1)), ("y", (0, 0, 0))):
            raised(InvalidOperation, turned, self.FREE, place)

    def test_numbers_and_words(self):
        no_factors = strange_but(lambda value: is_integer(value) and 1 <= value <= 99) + [0, 100, -1, True, None, Fraction(2), "2"]
        check_errors(scaled, (self.FREE, NO_PROGRAMS, InvalidProgram), (("x", (0,)), self.no_places("toss", "again"), InvalidOperation),
                     (2, no_factors, InvalidNumber))
        raised(InvalidOperation, scaled, self.FREE, ("x", (0, 0, 0)), 50)
        no_branches = strange_but(lambda value: is_integer(value) and 0 <= value <= 1) + [2, -1, False, True, None, (0,)]
        check_errors(flattened, (self.FREE, NO_PROGRAMS, InvalidProgram), (("x", (0,)), self.no_places("toss"), InvalidOperation),
                     (0, no_branches, InvalidNumber))
        raised(InvalidOperation, flattened, self.FREE, ("x", (0,)), 1)
        raised(InvalidNumber, flattened, self.FREE, ("x", (0, 0, 0)), 2)
        no_many = strange_but(lambda value: is_integer(value) and 1 <= value <= 2) + [0, 3, -1, True, None, 60]
        no_words = strange_but(lambda value: type(value) is str and value in ("x y", "z")) + ["x", "y", "", "Z", "abcdefghi", "z ", None, 1, ("z",)]
        no_words = [value for value in no_words if value != "z"]
        words = ("note", "call", "toss", "again", "choose", "stay")
        check_errors(split_off, (self.FREE, NO_PROGRAMS, InvalidProgram), (("x", (0,)), self.no_places(*words), InvalidOperation),
                     (1, no_many, InvalidNumber), ("z", no_words, InvalidOperation))
        self.assertEqual(raised(InvalidNumber, split_off, self.FREE, ("x", (1,)), 2, "x").value, 2)
        # A name that is not there yet, and is called by nobody.
        self.assertEqual(split_off(self.FREE, ("x", (1,)), 1, "self")["self"], read_body("y"))
        check_errors(dropped, (PICKS, NO_PROGRAMS, InvalidProgram), ("x", NO_NAMES, UnknownName))

    def test_results_that_are_no_programs_come_last(self):
        full = read_program("x = " + " ".join(["!a"] * 59) + " x")
        raised(InvalidOperation, inlined, full, ("x", (59,)))
        self.assertEqual(raised(InvalidNumber, split_off, full, ("x", (0,)), 61, "y").value, 61)
        raised(InvalidOperation, split_off, full, ("x", (0,)), 1, "y")
        self.assertEqual(raised(InvalidNumber, scaled, read_program("x = [99: | 1:]"), ("x", (0,)), 100).value, 100)

    def test_values_of_any_kind_change_nothing(self):
        for value in STRANGE:
            for call in (inlined, unrolled, lowered, merged, turned):
                if value not in (("x", (0,)), ("x", (1,))):
                    raised(InvalidOperation, call, PAIRS, value)
        self.assertEqual(sure_procedures(TURNS), ("x", "y"))
        self.assertEqual(GROWS, read_program("x = [1: | 2: x x]"))


if __name__ == "__main__":
    unittest.main()

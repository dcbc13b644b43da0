import fractions
import random
import unittest

import plain
from helpers import GROWS, LEAKS, PAIRS, PICKS, STRANGE, TURNS, all_parts, as_own, as_python, drawn_program, drawn_small_program, is_integer, program_of, raised
from order import check_errors, strange_but
from surelyends.chances.knots import mean_calls
from surelyends.change.edges import calls_at, edge_of, edge_weights, share_at, sure_at
from surelyends.errors import InvalidNumber, InvalidOperation, InvalidProgram, UnknownName
from surelyends.numbers.fractions import Fraction
from surelyends.papers.verdicts import is_sure
from surelyends.programs.programs import Program
from surelyends.programs.texts import read_program
from test_means import NO_NAMES, NO_PROGRAMS

TOSS = ("x", (0,))
LOOPS = read_program("x = {1/2: y} ~\ny = [1: | 1: !a {3/1: [9: | 1: x]}] y")
NO_SHARES = strange_but(lambda value: type(value) is Fraction and 0 < value.top < value.bottom) + [
    Fraction(0), Fraction(1), Fraction(-1, 2), Fraction(3, 2), 0, 1, "1/2", (1, 2),
    Fraction(10 ** 99, 10 ** 99 - 1), Fraction(-1, 10 ** 99),
]
TINY = Fraction(1, 10 ** 120)


def dials_of(program):
    """All pairs (place, branch) that are dials."""
    found = []
    for name, body in program.bodies.items():
        for path, part in all_parts(body):
            if part[:1] == ("toss",):
                found += [((name, path), branch) for branch in range(len(part) - 1)]
            elif part[:1] == ("again",):
                found.append(((name, path), None))
    return found


def changed(program, place, branch, share):
    """The bodies with the dial set to a share, of which the plain formulas know what to do with fractions as weights."""
    name, path = place
    return {**program.bodies, name: plain.dialled(program[name], path, branch, as_python(share))}


def drawn_ring(draw):
    """Procedures that call one another in a ring, each by a toss or a repeat, so that dials often have edges."""
    names = ("x", "y", "z")[:draw.randint(1, 3)]
    bodies = {}
    for at, name in enumerate(names):
        calls = (("call", names[at - 1]),) * draw.choice((1, 1, 2)) + draw.choice(((), (), (("call", name),)))
        sort = draw.random()
        if sort < 0.3:
            body = ("again", draw.randint(1, 3), draw.randint(1, 3), calls)
        elif sort < 0.6:
            body = ("toss", (draw.randint(1, 3), ()), (draw.randint(1, 3), calls), (1, calls[:1]))
        else:
            body = ("toss", (draw.randint(1, 3), ()), (draw.randint(1, 3), (("again", 2, draw.randint(1, 3), calls),)))
        bodies[name] = (body,)
    return Program.of(bodies)


class SharesTest(unittest.TestCase):
    def setUp(self):
        self.draw = random.Random(161)

    def test_drawn_programs(self):
        many = 0
        for _ in range(120):
            program = drawn_program(self.draw)
            for place, branch in dials_of(program):
                share = share_at(program, place, branch=branch)
                self.assertIs(type(share), Fraction)
                part = plain.part_at(program.bodies, place)
                if branch is None:
                    expected = fractions.Fraction(part[2], part[1] + part[2])
                else:
                    expected = fractions.Fraction(part[1 + branch][0], sum(weight for weight, _ in part[1:]))
                self.assertEqual(share, as_own(expected))
                # Set to its own share, all is as it was.
                self.assertEqual(calls_at(program, place, share, branch=branch), mean_calls(program, place[0]))
                other = Fraction(self.draw.randint(1, 10 ** 9), 10 ** 9 + 1)
                found = calls_at(program, place, other, branch=branch)
                self.assertEqual(tuple(found), program.names)
                body = changed(program, place, branch, other)[place[0]]
                for name in program.names:
                    self.assertIs(type(found[name]), Fraction)
                    self.assertEqual(found[name], as_own(plain.mean_calls(body, name)))
                many += 1
        self.assertGreater(many, 300)

    def test_known_shares(self):
        program = read_program("x = {2/3: [1: | 5: !a x | 4: {1/1: x x y}]}\ny = ~ [1: y | 1: x]")
        for place, branch, share, calls in (
                (("x", (0,)), None, "3/5", None), (("x", (0, 0, 0)), 0, "1/10", None), (("x", (0, 0, 0)), 1, "1/2", None),
                (("x", (0, 0, 0)), 2, "2/5", None), (("x", (0, 0, 0, 2, 0)), None, "1/2", None), (("y", (1,)), 1, "1/2", None),
        ):
            self.assertEqual(str(share_at(program, place, branch=branch)), share)
        half = Fraction(1, 2)
        for place, branch, expected in (
                (("x", (0,)), None, ("13/10", "2/5")), (("x", (0, 0, 0)), 0, ("13/12", "1/3")), (("x", (0, 0, 0)), 1, ("39/20", "3/5")),
                (("x", (0, 0, 0)), 2, ("17/8", "3/4")), (("x", (0, 0, 0, 2, 0)), None, ("39/20", "3/5")), (("y", (1,)), 0, ("1/2", "1/2")),
        ):
            found = calls_at(program, place, half, branch=branch)
            self.assertEqual((str(found["x"]), str(found["y"])), expected, (place, branch))
        # A repeat of which nearly every round is the last one, and one that goes on and on.
        self.assertEqual(str(calls_at(program, ("x", (0,)), Fraction(1, 100))["y"]), str(Fraction(2, 5).by(99)))
        self.assertEqual(calls_at(program, ("x", (0,)), Fraction(99, 100))["y"], Fraction(2, 5) * 99)

    def test_a_share_for_others_in_proportion(self):
        program = program_of("x = [3: y | 1: z | 2: w]\nw =\ny =\nz =")
        found = calls_at(program, TOSS, Fraction(1, 5), branch=1)
        self.assertEqual([str(found[name]) for name in "wxyz"], ["8/25", "0", "12/25", "1/5"])

    def test_errors(self):
        places = strange_but(lambda value: value == TOSS) + [
            ("x", (0, 0)), ("x", (0, 1)), ("x", ()), ("y", (0, 1, 0)), ("x", (1,)), ("z", (0,)), ("x", [0]), ["x", (0,)], ("x", (0,), 0),
            ("x", (-1,)), ("x", (True,)), ("x", (False,)), ("x", (0, 1, 0)), ("x", (0, 1, 0, 0)), ("x", (Fraction(0),)), ("x", (None,)), "x",
        ]
        branches = strange_but(lambda value: is_integer(value) and 0 <= value < 2) + [2, -1, True, None, "0", Fraction(1), (0,)]
        check_errors(lambda program, place, branch: share_at(program, place, branch=branch), (TURNS, NO_PROGRAMS, InvalidProgram),
                     (TOSS, places, InvalidOperation), (0, branches, InvalidNumber))
        half = Fraction(1, 2)
        check_errors(lambda program, place, branch, share: calls_at(program, place, share, branch=branch),
                     (TURNS, NO_PROGRAMS, InvalidProgram), (TOSS, places, InvalidOperation), (0, branches, InvalidNumber),
                     (half, NO_SHARES, InvalidOperation))
        check_errors(lambda program, name, place, branch, share: sure_at(program, name, place, share, branch=branch),
                     (TURNS, NO_PROGRAMS, InvalidProgram), ("x", NO_NAMES, UnknownName), (TOSS, places, InvalidOperation),
                     (0, branches, InvalidNumber), (half, NO_SHARES, InvalidOperation))
        for call in (edge_of, edge_weights):
            check_errors(lambda program, name, place, branch, call=call: call(program, name, place, branch=branch),
                         (TURNS, NO_PROGRAMS, InvalidProgram), ("x", NO_NAMES, UnknownName), (TOSS, places, InvalidOperation),
                         (0, branches, InvalidNumber))

    def test_errors_of_repeats(self):
        half = Fraction(1, 2)
        no_branches = strange_but(lambda value: value is None) + [0, 1, -1, False]
        for call in (share_at, lambda *told, **more: calls_at(*told, half, **more)):
            check_errors(lambda program, place, branch, call=call: call(program, place, branch=branch), (LOOPS, NO_PROGRAMS, InvalidProgram),
                         (TOSS, [("x", (1,)), ("x", (0, 0, 0)), ("y", (0, 1, 0)), ("y", (1,))], InvalidOperation), (None, no_branches, InvalidNumber))
        for call in (edge_of, edge_weights, lambda *told, **more: sure_at(*told, half, **more)):
            check_errors(lambda program, name, place, branch, call=call: call(program, name, place, branch=branch),
                         (LOOPS, NO_PROGRAMS, InvalidProgram), ("x", NO_NAMES, UnknownName), (TOSS, [("x", (1,)), ("y", (1,))], InvalidOperation),
                         (None, no_branches, InvalidNumber))
        # The branch is told ahead of the share; without a branch it is None.
        self.assertIsNone(raised(InvalidNumber, calls_at, TURNS, TOSS, half).value)
        self.assertEqual(raised(InvalidNumber, calls_at, LOOPS, TOSS, 5, branch=0).value, 0)
        raised(InvalidOperation, calls_at, LOOPS, TOSS, 5)
        raised(InvalidProgram, share_at, PICKS, TOSS, branch=0)


class EdgesTest(unittest.TestCase):
    def setUp(self):
        self.draw = random.Random(162)

    def check(self, program, name, place, branch):
        """The form of the edge, which is told by the plain formulas at many shares."""
        edge = edge_of(program, name, place, branch=branch)
        weights = edge_weights(program, name, place, branch=branch)
        shares = [Fraction(1, 10 ** 40), Fraction(1, 3), Fraction(1, 2), Fraction(9, 10), 1 - Fraction(1, 10 ** 40)]
        if len(edge) == 2:
            word, share = edge
            self.assertIs(type(share), Fraction)
            shares += [share, share - TINY * share, share + TINY * (1 - share), share * Fraction(1, 2), Fraction(1, 2) * (1 + share)]
            self.assertIn(word, ("upto", "from"))
        else:
            self.assertIn(edge, (("all",), ("none",)))
            self.assertIsNone(weights)
        for one in shares:
            expected = plain.is_sure(changed(program, place, branch, one), name)
            self.assertIs(sure_at(program, name, place, one, branch=branch), expected, (edge, str(one)))
            if len(edge) == 1:
                self.assertEqual(expected, edge[0] == "all")
            else:
                self.assertEqual(expected, one == share or one.is_less(share) == (word == "upto"), (edge, str(one)))
        own = share_at(program, place, branch=branch)
        self.assertIs(sure_at(program, name, place, own, branch=branch), is_sure(program, name))
        if len(edge) == 2:
            self.check_weights(changed(program, place, branch, share), place[0], weights)
        return edge[0]

    def check_weights(self, bodies, name, weights):
        knot = next(knot for knot in plain.knots(bodies) if name in knot)
        self.assertEqual(plain.pace(bodies, knot), "even")
        self.assertEqual(tuple(other for other, _ in weights), knot)
        self.assertEqual(weights[0][1], 1)
        self.assertTrue(all(type(weight) is Fraction for _, weight in weights))
        told = {other: as_python(weight) for other, weight in weights}
        self.assertEqual({other: plain.load(bodies[other], told) for other in knot}, told)

    def test_drawn_programs(self):
        forms = []
        for _ in range(60):
            for program in (drawn_ring(self.draw), drawn_small_program(self.draw), drawn_program(self.draw, most=2)):
                dials = dials_of(program)
                for place, branch in self.draw.sample(dials, min(len(dials), 4)):
                    name = self.draw.choice(program.names)
                    forms.append((self.check(program, name, place, branch), branch is None))
        for form, least in (("all", 30), ("none", 30), ("upto", 15), ("from", 8)):
            self.assertGreater(forms.count((form, False)), least, form)
        for form in ("all", "none", "upto"):
            self.assertGreater(forms.count((form, True)), 5, form)

    def test_each_form(self):
        for text, path, branch, expected in (
                ("[1: | 1: x x]", (0,), 1, "upto 1/2"), ("[1: | 1: x x]", (0,), 0, "from 1/2"), ("[1: | 1: x]", (0,), 0, "all"),
                ("[1: | 1: x]", (0,), 1, "all"), ("[1: x | 1: x x]", (0,), 0, "none"), ("[1: x | 1: x x]", (0,), 1, "none"),
                ("[1: x | 1: x]", (0,), 1, "none"), ("[1: | 1: x x x]", (0,), 1, "upto 1/3"), ("[5: | 1: x x | 5:]", (0,), 2, "all"),
                ("[1: | 1: x x x | 5:]", (0,), 2, "from 1/3"), ("[1: | 2: x x | 5:]", (0,), 2, "from 1/4"), ("x [1: | 1: x]", (0,), None, None),
                ("x [1: | 1: x]", (1,), 0, "none"), ("x [1: | 1:]", (1,), 0, "none"), ("[1: x | 1:] [1: | 1: y]", (1,), 0, "all"),
                ("{1/1: x}", (0,), None, "upto 1/2"), ("{1/9: x x}", (0,), None, "upto 1/3"), ("{1/1: y}", (0,), None, "all"), ("{9/1:} x", (0,), None, "none"),
                ("[1: | 1: {1/1: x}]", (0, 1, 0), None, "upto 2/3"), ("[1: x | 1: {1/1: x}]", (0, 1, 0), None, "upto 1/2"),
                ("[1: x | 1: {1/1: x}]", (0,), 1, "all"), ("[1: x x | 1: {1/1: x}]", (0, 1, 0), None, "none"), ("[1: x x | 1: {1/1: x}]", (0,), 0, "none"),
                ("[1: x x | 1: {2/1: x}]", (0,), 0, "upto 1/3"), ("[1: x x | 1: {2/1: x}]", (0,), 1, "from 2/3"), ("[1: x x | 1: {2/1: x}]", (0, 1, 0), None, "none"),
                ("[1: ~ | 1:]", (0,), 0, "none"), ("z [1: | 1: x x]", (1,), 0, "none"), ("[1: z | 1:]", (0,), 0, "none"), ("[1: y | 1: w]", (0,), 0, "none"),
                ("y [3: | 1: x x]", (1,), 1, "upto 1/2"), ("[1: | 99: !a]", (0,), 1, "all"),
        ):
            program = program_of(f"x = {text}\ny = [1: | 1: y y]\nz = y [1: | 2: z z]\nw = w")
            if expected is None:
                raised(InvalidOperation, edge_of, program, "x", ("x", path))
                continue
            form = self.check(program, "x", ("x", path), branch)
            edge = edge_of(program, "x", ("x", path), branch=branch)
            self.assertEqual(" ".join([form] + [str(one) for one in edge[1:]]), expected, text)

    def test_dials_elsewhere(self):
        # Knots: (a, b), (c), (d), (e); a reaches all but e, and e reaches d.
        program = read_program("\n".join([
            "a = [3: | 1: b c]", "b = [2: a d | 1:]", "c = [1: | 1: c]", "d = {3/1: d}", "e = [1: | 2: e e] d"]))
        for name, place, branch, expected in (
                ("a", ("a", (0,)), 1, ("all",)), ("b", ("a", (0,)), 1, ("all",)), ("c", ("a", (0,)), 1, ("all",)), ("e", ("a", (0,)), 1, ("none",)),
                ("a", ("b", (0,)), 0, ("all",)), ("a", ("c", (0,)), 1, ("all",)), ("d", ("c", (0,)), 1, ("all",)),
                ("a", ("d", (0,)), None, ("upto", Fraction(1, 2))), ("b", ("d", (0,)), None, ("upto", Fraction(1, 2))),
                ("c", ("d", (0,)), None, ("all",)), ("e", ("d", (0,)), None, ("none",)), ("d", ("d", (0,)), None, ("upto", Fraction(1, 2))),
                ("e", ("e", (0,)), 1, ("upto", Fraction(1, 2))), ("a", ("e", (0,)), 1, ("all",)), ("d", ("e", (0,)), 0, ("all",)),
        ):
            self.check(program, name, place, branch)
            self.assertEqual(edge_of(program, name, place, branch=branch), expected, (name, place))
        for name in "abd":
            self.assertEqual(edge_weights(program, name, ("d", (0,))), (("d", 1),))
        self.assertIsNone(edge_weights(program, "e", ("d", (0,))))
        ring = read_program("x = y y\ny = [1: | 1: z]\nz = [1: | 3: x] {5/1: z}")
        for name, place, branch in (("x", ("z", (0,)), 1), ("y", ("z", (0,)), 0), ("z", ("z", (1,)), None), ("x", ("y", (0,)), 0)):
            self.assertIn(self.check(ring, name, place, branch), ("upto", "from"))
        self.assertEqual(edge_of(ring, "x", ("y", (0,)), branch=1), ("upto", Fraction(8, 15)))

    def test_procedures_that_cannot_end_or_stay(self):
        program = read_program("a = [1: | 1: a a]\nb = [9: a | 1: ~]\nc = [1: c | 1: c]\nd = [1: | 1: b] a\ne = [1: c | 9:]")
        for name in "bcde":
            for place, branch in dials_of(program):
                self.assertEqual(edge_of(program, name, place, branch=branch), ("none",))
                self.assertIsNone(edge_weights(program, name, place, branch=branch))
                self.assertIs(sure_at(program, name, place, Fraction(1, 10 ** 99), branch=branch), False)
        self.assertEqual(self.check(program, "a", ("b", (0,)), 1), "all")
        self.assertEqual(self.check(LEAKS, "x", ("z", (0,)), 1), "none")
        self.assertEqual(self.check(GROWS, "x", TOSS, 1), "upto")

    def test_two_shares_that_cannot_both_be_raised(self):
        program = read_program("x = [3: | 1: x x] [3: | 1: x x]")
        for place in (("x", (0,)), ("x", (1,))):
            self.check(program, "x", place, 1)
        self.assertEqual(edge_of(program, "x", ("x", (0,)), branch=1), ("upto", Fraction(1, 4)))
        program = read_program("x = [4: | 1: x x] [4: | 1: x x]")
        self.assertEqual(edge_of(program, "x", ("x", (0,)), branch=1), ("upto", Fraction(3, 10)))
        self.assertEqual(edge_of(program, "x", ("x", (1,)), branch=1), ("upto", Fraction(3, 10)))
        both = {"x": plain.dialled(plain.dialled(program["x"], (0,), 1, fractions.Fraction(3, 10)), (1,), 1, fractions.Fraction(3, 10))}
        self.assertFalse(plain.is_sure(both, "x"))

    def test_any_share_is_taken_as_it_is(self):
        for share in [value for value in STRANGE if type(value) is Fraction and 0 < value.top < value.bottom]:
            self.assertIs(sure_at(PAIRS, "x", TOSS, share, branch=1), True)
        self.assertIs(sure_at(PAIRS, "x", TOSS, Fraction(1, 2) + TINY, branch=1), False)
        self.assertIs(sure_at(PAIRS, "x", TOSS, Fraction(1, 2), branch=1), True)


if __name__ == "__main__":
    unittest.main()

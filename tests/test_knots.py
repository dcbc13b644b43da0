import random
import unittest

import plain
from helpers import GROWS, LEAKS, PAIRS, PICKS, TURNS, as_own, as_python, drawn_program, raised
from order import check_errors, strange_but
from surelyends.chances.knots import knot_of, knots, mean_calls, mean_rows, most_calls, reaches
from surelyends.errors import InvalidOperation, InvalidProgram, UnknownName
from surelyends.numbers.fractions import Fraction
from surelyends.programs.programs import Program
from surelyends.programs.texts import read_program

NO_FREE = strange_but(lambda value: isinstance(value, Program))
NO_PROGRAMS = strange_but(lambda value: isinstance(value, Program) and value.is_closed)
NO_NAMES = strange_but(lambda value: type(value) is str and value == "x")
NO_KNOTS = strange_but(lambda value: value == ("x",)) + [("y",), ("x", "y"), ["x"], (("x",),), ("x", "x"), "x"]
NO_WEIGHTS = strange_but(lambda value: type(value) is dict and list(value) == ["x"] and type(value["x"]) in (
    int, Fraction) and as_python(value["x"]) >= 0)


def drawn_calls(draw, closed):
    """A program whose procedures mostly only call some others, so that there are knots of many forms."""
    names = draw.sample("abcdefghxyz", draw.randint(1, 8))
    bodies = {}
    for name in names:
        called = draw.sample(names, min(len(names), draw.choice((0, 1, 1, 2))))
        body = tuple(("call", other) for other in called)
        if draw.random() < 0.3:
            body = (("toss", (1, body), (2, ())),)
        if draw.random() < 0.3 and not closed:
            body = (("choose", body, (), (("call", draw.choice(names)),)),)
        bodies[name] = body
    return Program.of(bodies)


class KnotsTest(unittest.TestCase):
    def setUp(self):
        self.draw = random.Random(91)

    def check(self, program):
        bodies = program.bodies
        found = knots(program)
        self.assertEqual(found, plain.knots(bodies))
        self.assertEqual(sorted(name for knot in found for name in knot), list(program.names))
        for name in program.names:
            self.assertEqual(reaches(program, name), plain.reach(bodies, name))
            self.assertIn(knot_of(program, name), found)
            self.assertIn(name, knot_of(program, name))
        for at, knot in enumerate(found):
            ahead = {name for one in found[:at + 1] for name in one}
            for name in knot:
                self.assertLessEqual(set(reaches(program, name)), ahead)

    def test_drawn_programs(self):
        for _ in range(150):
            for closed in (True, False):
                self.check(drawn_program(self.draw, closed))
                self.check(drawn_calls(self.draw, closed))

    def test_rings_and_loners(self):
        ring = read_program("\n".join(f"{name} = {other}" for name, other in zip("abcdefgh", "bcdefgha")))
        self.assertEqual(knots(ring), (tuple("abcdefgh"),))
        self.assertEqual(reaches(ring, "e"), tuple("abcdefgh"))
        line = read_program("\n".join(f"{name} = {other}" for name, other in zip("abcdefg", "bcdefgh")) + "\nh =")
        self.assertEqual(knots(line), tuple((name,) for name in "hgfedcba"))
        self.assertEqual(reaches(line, "e"), tuple("efgh"))
        alone = read_program("a = a\nb =\nc = ~\nd = d d")
        self.assertEqual(knots(alone), (("a",), ("b",), ("c",), ("d",)))
        self.assertEqual([reaches(alone, name) for name in "abcd"], [("a",), ("b",), ("c",), ("d",)])

    def test_the_order(self):
        # As soon as c stands, a can; b can from the start, but its least name comes behind that of the other ring.
        program = read_program("a = c\nb = b\nc = d\nd =")
        self.assertEqual(knots(program), (("b",), ("d",), ("c",), ("a",)))
        program = read_program("a = c d\nb = e\nc = a\nd =\ne = b d")
        self.assertEqual(knots(program), (("d",), ("a", "c"), ("b", "e")))
        program = read_program("a = z\nb = y\ny =\nz =")
        self.assertEqual(knots(program), (("y",), ("b",), ("z",), ("a",)))

    def test_calls_anywhere_count(self):
        for text in ("y", "~ y", "[1: | 99: ~ y]", "{99/1: {99/1: {99/1: {99/1: y}}}}", "< | y>", "<y | < | ~ y>>"):
            program = read_program(f"x = {text}\ny = x")
            self.assertEqual(knots(program), (("x", "y"),))
            self.assertEqual(knot_of(program, "y"), ("x", "y"))
            program = read_program(f"x = {text}\ny =")
            self.assertEqual((reaches(program, "x"), reaches(program, "y")), (("x", "y"), ("y",)))
            self.assertEqual(knots(program), (("y",), ("x",)))

    def test_errors(self):
        self.assertEqual([knots(PICKS), reaches(PICKS, "x"), knot_of(PICKS, "x")], [(("x",),), ("x",), ("x",)])
        check_errors(knots, (PICKS, NO_FREE, InvalidProgram))
        for call in (reaches, knot_of):
            check_errors(call, (PICKS, NO_FREE, InvalidProgram), ("x", NO_NAMES, UnknownName))


class MeanCallsTest(unittest.TestCase):
    def setUp(self):
        self.draw = random.Random(92)

    def test_against_the_formulas(self):
        for _ in range(200):
            program = drawn_program(self.draw)
            for name in program.names:
                found = mean_calls(program, name)
                self.assertEqual(list(found), list(program.names))
                for other in program.names:
                    self.assertIs(type(found[other]), Fraction)
                    self.assertEqual(as_python(found[other]), plain.mean_calls(program[name], other))
            for knot in knots(program):
                rows = mean_rows(program, knot)
                self.assertEqual(type(rows), tuple)
                self.assertEqual([[as_python(one) for one in row] for row in rows],
                                 [[plain.mean_calls(program[name], other) for other in knot] for name in knot])
                self.assertTrue(all(type(row) is tuple and all(type(one) is Fraction for one in row) for row in rows))

    def test_each_statement(self):
        for text, expected in (
                ("", "0"), ("!y", "0"), ("~", "0"), ("x", "0"), ("y", "1"), ("y x y ~ y", "3"), ("[1: y | 1:]", "1/2"),
                ("[1: y | 2: y y | 3:]", "5/6"), ("[1: y | 2: x | 3: y | 4: y y]", "6/5"), ("{1/1: y}", "1"),
                ("{2/1: y}", "1/2"), ("{1/99: y y}", "198"), ("{1/99: {1/99: {1/99: {1/99: y}}}}", "96059601"),
                ("{2/3: [1: y | 4: {3/1: y y}]}", "11/10"), ("[1: ~ y | 3: ~]", "1/4"), ("{3/2: ~} y", "1"),
        ):
            program = read_program(f"x = {text}\ny =".replace("x = \n", "x =\n"))
            self.assertEqual(str(mean_calls(program, "x")["y"]), expected, text)
            self.assertEqual(str(most_calls(program, "x", {"x": 0, "y": 1})), expected, text)
            self.assertEqual(mean_rows(program, ("y",)), ((0,),))

    def test_rows_of_a_ring(self):
        program = read_program("a = [1: b | 2: c d]\nb = {2/1: a}\nc = a a a\nd = d d")
        self.assertEqual(knots(program), (("d",), ("a", "b", "c")))
        rows = mean_rows(program, ("a", "b", "c"))
        self.assertEqual([[str(one) for one in row] for row in rows],
                         [["0", "1/3", "2/3"], ["1/2", "0", "0"], ["3", "0", "0"]])
        self.assertEqual(mean_rows(program, ("d",)), ((2,),))
        self.assertEqual(mean_calls(program, "a"), {"a": 0, "b": Fraction(1, 3), "c": Fraction(2, 3), "d": Fraction(2, 3)})

    def test_errors(self):
        check_errors(mean_calls, (PAIRS, NO_PROGRAMS, InvalidProgram), ("x", NO_NAMES, UnknownName))
        check_errors(mean_rows, (PAIRS, NO_PROGRAMS, InvalidProgram), (("x",), NO_KNOTS, InvalidOperation))
        for knot in (("x",), ("y",), ("y", "x"), ("x", "y", "z"), ()):
            raised(InvalidOperation, mean_rows, TURNS, knot)
        raised(InvalidOperation, mean_rows, LEAKS, ("x", "z"))


class MostCallsTest(unittest.TestCase):
    def setUp(self):
        self.draw = random.Random(93)

    def drawn_weights(self, names):
        names = list(names)
        self.draw.shuffle(names)
        return {name: self.draw.choice((0, 1, 2, Fraction(self.draw.randint(0, 50), self.draw.randint(1, 50)),
                                        Fraction(10 ** 90, 7))) for name in names}

    def test_against_the_formulas(self):
        for _ in range(200):
            program = drawn_program(self.draw, self.draw.random() < 0.3)
            weights = self.drawn_weights(program.names)
            kept = list(weights.items())
            for name in program.names:
                found = most_calls(program, name, weights)
                self.assertIs(type(found), Fraction)
                self.assertEqual(as_python(found), plain.load(program[name], weights))
            self.assertEqual(list(weights.items()), kept)

    def test_choices(self):
        for text, expected in (
                ("< | y>", "1"), ("<x y | y y y | x>", "11"), ("<x x | y y y>", "20"), ("[1: <x | y> | 1: < | ~ y>]", "11/2"),
                ("{1/2: <y | x>}", "20"), ("<[1: x | 1:] | y y>", "5"), ("<<y | x> | <x x | >>", "20"), ("<y | y> <y | x>", "11"),
        ):
            program = read_program(f"x = {text}\ny =")
            self.assertEqual(str(most_calls(program, "x", {"y": 1, "x": 10})), expected, text)

    def test_in_closed_programs_it_is_the_load(self):
        for _ in range(100):
            program = drawn_program(self.draw)
            weights = self.drawn_weights(program.names)
            for name in program.names:
                calls = mean_calls(program, name)
                expected = sum(as_python(calls[other]) * as_python(weights[other]) for other in program.names)
                self.assertEqual(most_calls(program, name, weights), as_own(expected))

    def test_errors(self):
        check_errors(most_calls, (PICKS, NO_FREE, InvalidProgram), ("x", NO_NAMES, UnknownName),
                     ({"x": 1}, NO_WEIGHTS, InvalidOperation))
        self.assertEqual(most_calls(PICKS, "x", {"x": 0}), 0)
        for weights in ({"x": 1}, {"x": 1, "y": -1}, {"x": 1, "y": Fraction(-1, 9)}, {"x": 1, "z": 1}, {"x": 1, "y": True},
                        {"x": 1, "y": 1, "z": 1}, {}, (("x", 1), ("y", 1)), {"x": 1, "y": None}):
            raised(InvalidOperation, most_calls, TURNS, "x", weights)
        self.assertEqual(str(most_calls(GROWS, "x", {"x": Fraction(3, 4)})), "1")


if __name__ == "__main__":
    unittest.main()

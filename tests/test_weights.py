import fractions
import random
import unittest

import plain
from helpers import (
    GROWS,
    LEAKS,
    PAIRS,
    PICKS,
    PRIMES,
    STRANGE,
    TURNS,
    as_own,
    as_python,
    drawn_program,
    drawn_small_program,
    edge_line,
    raised,
)
from order import check_errors, strange_but
from surelyends.chances.knots import knots
from surelyends.chances.weights import even_weights, is_knot_paper, knot_paper, loads_of, pace_of
from surelyends.errors import InvalidOperation, InvalidProgram
from surelyends.numbers.fractions import Fraction
from surelyends.programs.programs import Program
from surelyends.programs.texts import read_program

X = ("x",)
NO_PROGRAMS = strange_but(lambda value: isinstance(value, Program) and value.is_closed)
NO_KNOTS = strange_but(lambda value: value == X) + [("y",), ("x", "y"), ["x"], (("x",),), ("x", "x"), "x"]


def are_weights_of_x(value):
    rows = plain.rows_of(value, 1)
    return rows is not None and tuple(rows) == X and rows["x"][0] > 0


NO_WEIGHTS = strange_but(are_weights_of_x) + [(("y", 1),), (("x", 1), ("y", 1)), (("x", Fraction(-1, 9)),), (("x", 0),)]


class KnotPaperTest(unittest.TestCase):
    def setUp(self):
        self.draw = random.Random(101)

    def check(self, program, knot):
        bodies = program.bodies
        paper = knot_paper(program, knot)
        self.assertTrue(plain.is_knot_paper(bodies, knot, paper), paper)
        self.assertIs(is_knot_paper(program, knot, paper), True)
        self.assertTrue(all(type(weight) is Fraction for _, weight in paper[1]))
        # With the other word the same weights show nothing.
        other = "growing" if paper[0] == "steady" else "steady"
        self.assertIs(is_knot_paper(program, knot, (other, paper[1])), False)
        pace = pace_of(program, knot)
        self.assertEqual(pace, plain.pace(bodies, knot))
        self.assertEqual(paper[0] == "growing", pace == "growing")
        weights = even_weights(program, knot)
        self.assertEqual(weights is None, pace != "even")
        if weights is not None:
            self.assertEqual(weights[0], (knot[0], 1))
            self.assertTrue(all(type(weight) is Fraction for _, weight in weights))
            self.assertEqual(loads_of(program, knot, weights), dict(weights))
            self.assertIs(is_knot_paper(program, knot, ("steady", weights)), True)
            # The steady weights of an even knot are these, but for a factor.
            factor = paper[1][0][1]
            self.assertEqual(paper[1], tuple((name, factor * weight) for name, weight in weights))
        return pace

    def test_drawn_programs(self):
        paces = []
        for _ in range(150):
            for program in (drawn_program(self.draw), drawn_small_program(self.draw), drawn_small_program(self.draw)):
                for knot in knots(program):
                    paces.append((self.check(program, knot), len(knot) > 1))
        for pace in ("falling", "even", "growing"):
            for has_several in (True, False):
                self.assertGreater(paces.count((pace, has_several)), 3, (pace, has_several))

    def test_each_pace(self):
        for text, expected in (
                ("", "falling"), ("~", "falling"), ("x", "even"), ("x x", "growing"), ("~ x", "even"), ("[1: | 1: x x]", "even"),
                ("[1: | 99: x]", "falling"), ("[50: | 49: x x]", "falling"), ("[49: | 50: x x]", "growing"),
                ("[1: x | 1: ~]", "falling"), ("{2/1: x}", "falling"), ("{2/2: x}", "even"), ("{98/99: x}", "growing"),
                ("[1: x | 2:] [2: x | 1:]", "even"), ("{99/98: {98/99: x}}", "even"), ("{99/98: {97/98: x}}", "growing"),
                ("{99/98: {98/98: x}}", "falling"), ("y", "falling"), ("y x", "even"),
        ):
            program = read_program(f"x = {text}\ny = y y".replace("x = \n", "x =\n"))
            self.assertEqual(self.check(program, X), expected, text)
            self.assertEqual(self.check(program, ("y",)), "growing")

    def test_just_at_the_edge_and_beside_it(self):
        for primes in (PRIMES[2:5], PRIMES[5:12], PRIMES[:20], PRIMES):
            for above, expected in ((1, "growing"), (-1, "falling"), (101, "growing"), (-101, "falling")):
                program = read_program(edge_line("x", "x", primes, above))
                self.assertEqual(self.check(program, X), expected)
        # A ring of three, of which one part is beside the edge.
        for above, expected in ((1, "growing"), (-1, "falling")):
            lines = "y = [3: | 5: z]\nz = {5/8: x}"
            program = read_program(edge_line("x", "y", PRIMES[4:15], above) + "\n" + lines)
            self.assertEqual(self.check(program, ("x", "y", "z")), expected)
        program = read_program("x = [1: | 2: y]\ny = [3: | 5: z]\nz = {5/12: x}")
        self.assertEqual(self.check(program, ("x", "y", "z")), "even")
        self.assertEqual([str(weight) for _, weight in even_weights(program, ("x", "y", "z"))], ["1", "3/2", "12/5"])

    def test_knots_of_eight(self):
        for go, expected in ((1, "falling"), (2, "even"), (3, "growing")):
            names = "abcdefgh"
            # All together go / 2 of a round in the mean, alone each one is far from 1.
            lines = [f"{name} = [1: {other} | 3: ] {other}".replace(": ]", ":]") for name, other in zip(names, names[1:])]
            lines.append("h = {2/%d: %s}" % (go, " ".join(["[4: a | 1:]"] * 1)))
            program = read_program("\n".join(lines))
            # (5/4) ** 7 * 4/5 * go / 2
            rate = fractions.Fraction(5, 4) ** 7 * fractions.Fraction(4, 5) * fractions.Fraction(go, 2)
            self.assertEqual(self.check(program, tuple(names)), "growing" if rate > 1 else "falling")
            ring = "\n".join(f"{name} = [1: | 1: {other} {other}]" for name, other in zip(names, names[1:]))
            program = read_program(ring + "\nh = {2/%d: a}" % go)
            self.assertEqual(self.check(program, tuple(names)), expected)

    def test_growing_knots_with_other_weights_that_stay(self):
        # There are weights that are equal to their loads, but not above 0: (1, -1), (1, 0, -1).
        for text, knot in (("x = x x y\ny = x y y", ("x", "y")), ("x = [1: | 3: x y]\ny = [1: | 3: x y] [1: | 1: ~]", ("x", "y")),
                           ("x = x y\ny = x y z\nz = y z", ("x", "y", "z")),
                           ("x = [1: | 1: x x x x y y]\ny = [1: | 1: x x y y y y]", ("x", "y"))):
            self.assertEqual(self.check(read_program(text), knot), "growing")

    def test_members_that_call_others(self):
        # Calls of other procedures do not count, however many.
        program = read_program("x = [1: | 1: x y y y y]\ny = y y y")
        self.assertEqual(self.check(program, X), "falling")
        self.assertEqual(loads_of(program, X, (("x", 4),)), {"x": 2})

    def test_errors(self):
        for call in (pace_of, knot_paper, even_weights):
            check_errors(call, (PAIRS, NO_PROGRAMS, InvalidProgram), (X, NO_KNOTS, InvalidOperation))
            for knot in (X, ("y", "x"), ("x", "y", "z"), (), ["x", "y"]):
                raised(InvalidOperation, call, TURNS, knot)
            raised(InvalidProgram, call, PICKS, X)


class IsKnotPaperTest(unittest.TestCase):
    def setUp(self):
        self.draw = random.Random(102)

    def test_bent_papers(self):
        accepted = refused = 0
        for _ in range(25):
            program = self.draw.choice((drawn_program, drawn_small_program))(self.draw)
            bodies = program.bodies
            for knot in knots(program):
                paper = knot_paper(program, knot)
                for bent in plain.bent(paper, STRANGE[:20]):
                    expected = plain.is_knot_paper(bodies, knot, bent)
                    self.assertIs(is_knot_paper(program, knot, bent), expected, (paper, bent))
                    accepted += expected
                    refused += not expected
        self.assertGreater(accepted, 100)
        self.assertGreater(refused, 1000)

    def test_scaled_papers(self):
        for _ in range(40):
            program = drawn_small_program(self.draw)
            for knot in knots(program):
                word, weights = knot_paper(program, knot)
                for factor in (Fraction(1, 10 ** 50), Fraction(7, 3), 10 ** 90):
                    scaled = tuple((name, weight * factor) for name, weight in weights)
                    self.assertIs(is_knot_paper(program, knot, (word, scaled)), True)
                bottom = max(as_python(weight).denominator for _, weight in weights)
                whole = tuple((name, int(as_python(weight) * bottom)) for name, weight in weights)
                if all(as_python(weight) * bottom % 1 == 0 for _, weight in weights):
                    self.assertIs(is_knot_paper(program, knot, (word, whole)), True)

    def test_the_edge(self):
        tiny = Fraction(1, 10 ** 300)
        program = read_program("x = y y\ny = [1: | 1: x]")
        knot = ("x", "y")
        for change, expected in ((0, True), (tiny, False), (-tiny, False)):
            weights = (("x", 2 + change), ("y", 1))
            self.assertIs(is_knot_paper(program, knot, ("steady", weights)), expected)
            self.assertIs(is_knot_paper(program, knot, ("growing", weights)), False)
        self.assertIs(is_knot_paper(GROWS, X, ("steady", (("x", 1),))), False)
        self.assertIs(is_knot_paper(PAIRS, X, ("growing", (("x", 1),))), False)
        self.assertIs(is_knot_paper(PAIRS, X, ("steady", (("x", Fraction(1, 3)),))), True)
        self.assertIs(is_knot_paper(LEAKS, ("z",), ("steady", (("z", 1),))), True)
        self.assertIs(is_knot_paper(LEAKS, ("z",), ("growing", (("z", 1),))), False)

    def test_any_value(self):
        for value in STRANGE:
            self.assertIs(is_knot_paper(PAIRS, X, value), plain.is_knot_paper(PAIRS.bodies, X, value))
            self.assertIs(is_knot_paper(TURNS, ("x", "y"), value), False)
        check_errors(lambda program, knot: is_knot_paper(program, knot, None),
                     (PAIRS, NO_PROGRAMS, InvalidProgram), (X, NO_KNOTS, InvalidOperation))


class LoadsTest(unittest.TestCase):
    def test_against_the_formulas(self):
        draw = random.Random(103)
        for _ in range(150):
            program = drawn_program(draw)
            for knot in knots(program):
                weights = tuple((name, draw.choice((1, 5, Fraction(draw.randint(1, 50), draw.randint(1, 50)), Fraction(1, 10 ** 99))))
                                for name in knot)
                found = loads_of(program, knot, weights)
                self.assertEqual(list(found), list(knot))
                for name in knot:
                    self.assertIs(type(found[name]), Fraction)
                    self.assertEqual(found[name], as_own(plain.load(program[name], dict(weights))))

    def test_errors(self):
        check_errors(loads_of, (PAIRS, NO_PROGRAMS, InvalidProgram), (X, NO_KNOTS, InvalidOperation),
                     ((("x", 1),), NO_WEIGHTS, InvalidOperation))
        right = (("x", 1), ("y", Fraction(1, 2)))
        self.assertEqual(str(loads_of(TURNS, ("x", "y"), right)["x"]), "1/4")
        for bent in plain.bent(right, STRANGE[:20]):
            rows = plain.rows_of(bent, 1)
            if rows is None or tuple(rows) != ("x", "y") or min(row[0] for row in rows.values()) <= 0:
                raised(InvalidOperation, loads_of, TURNS, ("x", "y"), bent)
            else:
                loads_of(TURNS, ("x", "y"), bent)


if __name__ == "__main__":
    unittest.main()

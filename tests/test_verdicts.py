import random
import unittest

import plain
from helpers import (
    GROWS,
    LEAKS,
    PAIRS,
    PICKS,
    PRIMES,
    STRANGE,
    TURNS,
    as_own,
    as_python,
    drawn_program,
    drawn_small_program,
    edge_line,
    program_of,
    raised,
)
from order import check_errors, strange_but
from surelyends.chances.knots import reaches
from surelyends.chances.values import next_values
from surelyends.errors import InvalidOperation, InvalidProgram, UnknownName
from surelyends.numbers.fractions import Fraction
from surelyends.papers.bounds import bounds
from surelyends.papers.sure import sure_paper
from surelyends.papers.verdicts import (
    is_paper,
    is_sure,
    is_unsure_paper,
    lesser_paper,
    next_paper,
    paper_of,
    sure_procedures,
    unsure_paper,
)
from surelyends.programs.programs import Program
from surelyends.runs.runs import ends_by

HALF = Fraction(1, 2)
NO_PROGRAMS = strange_but(lambda value: isinstance(value, Program) and value.is_closed)
NO_NAMES = strange_but(lambda value: type(value) is str and value == "x")
# x is 1/2 at least, and 1 is no value for it.
NO_PAPERS = strange_but(lambda value: plain.is_unsure_paper(GROWS.bodies, "x", value))


class VerdictsTest(unittest.TestCase):
    def setUp(self):
        self.draw = random.Random(121)

    def check(self, program):
        """The names of the sure procedures; each verdict is shown by a paper, and by no other one."""
        bodies = program.bodies
        sure = []
        for name in program.names:
            paper = paper_of(program, name)
            self.assertIn(paper[0], ("sure", "unsure"))
            is_right = {"sure": plain.is_sure_paper, "unsure": plain.is_unsure_paper}[paper[0]]
            self.assertTrue(is_right(bodies, name, paper), paper)
            self.assertIs(is_paper(program, name, paper), True)
            self.assertIs(is_sure(program, name), paper[0] == "sure")
            unsure = unsure_paper(program, name)
            if paper[0] == "sure":
                sure.append(name)
                self.assertIsNone(unsure)
            else:
                self.assertIsNone(sure_paper(program, name))
                self.assertTrue(plain.is_unsure_paper(bodies, name, unsure))
                self.assertIs(is_unsure_paper(program, name, unsure), True)
                self.assertIs(is_paper(program, name, unsure), True)
                self.assertTrue(all(type(value) is Fraction for _, value in unsure[1]))
                # Runs of a few steps have a part of the chance, which is at most the value.
                values = {one: as_python(value) for one, value in unsure[1]}
                self.assertLessEqual(as_python(ends_by(program, name, 12, 12)), values[name])
        self.assertEqual(sure_procedures(program), tuple(sure))
        return sure

    def test_drawn_programs(self):
        sure = unsure = 0
        for _ in range(120):
            for program in (drawn_program(self.draw, most=2), drawn_small_program(self.draw), drawn_small_program(self.draw)):
                many = len(self.check(program))
                sure += many
                unsure += len(program) - many
        self.assertGreater(sure, 200)
        self.assertGreater(unsure, 200)

    def test_small_programs_one_by_one(self):
        """All programs of two procedures with bodies of a few forms."""
        forms = ("", "~", "x", "y", "x y", "[1: | 1: x x]", "[1: | 1: x y]", "[1: | 2: y y]", "[2: | 1: y y]", "[1: ~ | 9: y]",
                 "{1/1: x}", "{1/1: y}", "{1/2: x y}", "[1: x | 1: y]", "[1: | 1: ~ x]")
        many = 0
        for one in forms:
            for other in forms:
                many += len(self.check(program_of(f"x = {one}\ny = {other}".replace("= \n", "=\n").rstrip(" "))))
        self.assertGreater(many, 60)

    def test_just_at_the_edge_and_beside_it(self):
        for primes in (PRIMES[2:6], PRIMES[5:12], PRIMES[:18], PRIMES):
            for above in (1, -1, 101, -101):
                program = program_of(edge_line("x", "x", primes, above) + "\ny = x\nz = [1: | 1: x z]")
                self.assertEqual(self.check(program), [] if above > 0 else ["x", "y", "z"])
        # A ring, and even knots behind it: what is unsure by a little makes them unsure.
        for above in (1, -1):
            program = program_of(edge_line("x", "y", PRIMES[4:15], above) +
                                 "\ny = [3: | 5: z]\nz = {5/8: x}\nw = [1: | 1: w w [98: | 1: x]]")
            self.assertEqual(self.check(program), [] if above > 0 else ["w", "x", "y", "z"])

    def test_knots_behind_knots(self):
        names = "abcdefgh"
        for text, expected in (("~", ""), ("", names), ("a a", "")):
            lines = [f"{name} = [1: | 1: {name} {name} [99: | 1: [99: | 1: {ahead}]]]" for name, ahead in zip(names[1:], names)]
            program = program_of("\n".join([f"a = [99: | 1: [99: | 1: [99: | 1: [97: | 3: {text}]]]]".replace(": ]", ":]")] + lines))
            self.assertEqual(self.check(program), list(expected) if text != "a a" else list(names))
        # Just one of the procedures is a little unsure, and those that reach it.
        program = program_of("a =\nb = a\nc = {1/1: c} b\nd = [99: | 1: [99: | 1: ~]] c\ne = [1: | 1: d]\nf = c f\ng = [1: c | 1: g]")
        self.assertEqual(self.check(program), ["a", "b", "c", "g"])

    def test_procedures_that_cannot_end(self):
        program = program_of("a = [1: | 1: b]\nb = a b\nc = [1: a | 1: b | 1: c c]\nd = d")
        self.assertEqual(self.check(program), [])
        self.assertIs(is_unsure_paper(program, "b", ("unsure", (("a", HALF), ("b", 0)))), True)
        self.assertIs(is_unsure_paper(program, "d", ("unsure", (("d", 0),))), True)
        self.assertIs(is_unsure_paper(program, "d", ("unsure", (("d", HALF),))), True)
        self.assertIs(is_unsure_paper(program, "d", ("unsure", (("d", 1),))), False)

    def test_repeats_at_the_edge(self):
        for text, expected in (("{1/1: x}", True), ("{99/98: x}", True), ("{98/99: x}", False), ("{1/1: x} [99: | 1: x]", False),
                               ("{1/2: {2/1: x}}", True), ("{1/2: {99/50: x}}", False), ("{1/99: {99/1: x}}", True)):
            self.assertEqual(self.check(program_of(f"x = {text}")), ["x"] if expected else [])

    def test_errors(self):
        for call in (is_sure, unsure_paper, paper_of):
            check_errors(call, (PAIRS, NO_PROGRAMS, InvalidProgram), ("x", NO_NAMES, UnknownName))
            raised(InvalidProgram, call, PICKS, "y")
        check_errors(sure_procedures, (PAIRS, NO_PROGRAMS, InvalidProgram))


class IsUnsurePaperTest(unittest.TestCase):
    def setUp(self):
        self.draw = random.Random(122)

    def test_bent_papers(self):
        accepted = refused = 0
        for _ in range(60):
            program = self.draw.choice((drawn_program, drawn_small_program))(self.draw)
            papers = [(name, paper) for name in program.names if (paper := unsure_paper(program, name)) is not None]
            for name, paper in papers[:2]:
                for bent in plain.bent(paper, STRANGE[:14]):
                    expected = plain.is_unsure_paper(program.bodies, name, bent)
                    self.assertIs(is_unsure_paper(program, name, bent), expected, (paper, bent))
                    self.assertIs(is_paper(program, name, bent), expected)
                    accepted += expected
                    refused += not expected
        self.assertGreater(accepted, 100)
        self.assertGreater(refused, 3000)

    def test_the_edges_of_each_value(self):
        tiny = Fraction(1, 10 ** 300)
        for value, expected in ((HALF, True), (HALF - tiny, False), (HALF + tiny, True), (1 - tiny, True), (1, False), (1 + tiny, False),
                                (0, False), (-1, False), (Fraction(2, 3), True)):
            self.assertIs(is_unsure_paper(GROWS, "x", ("unsure", (("x", value),))), expected)
        low, high = Fraction(10, 11), Fraction(9, 10)
        for x, z, expected in ((low, high, True), (low - tiny, high, False), (low, high - tiny, False), (low, high + tiny, False),
                               (low + tiny, high + tiny, True), (1, high, False), (low, 1, False), (1 - tiny, high, True)):
            self.assertIs(is_unsure_paper(LEAKS, "x", ("unsure", (("x", x), ("z", z)))), expected, (str(x), str(z)))
        # Only the value of the procedure itself has to be below 1.
        program = program_of("x = [1: y | 1: ~]\ny = {1/1: y}\nz = z")
        self.assertIs(is_unsure_paper(program, "x", ("unsure", (("x", HALF), ("y", 1)))), True)
        self.assertIs(is_unsure_paper(program, "x", ("unsure", (("x", 1), ("y", 1)))), False)
        self.assertIs(is_unsure_paper(program, "x", ("unsure", (("x", HALF), ("y", 1), ("z", 0)))), False)
        self.assertIs(is_unsure_paper(program, "x", ("unsure", (("x", HALF),))), False)
        self.assertIs(is_unsure_paper(program, "y", ("unsure", (("y", 1),))), False)
        self.assertIs(is_unsure_paper(program, "y", ("unsure", (("y", HALF),))), False)

    def test_any_value(self):
        for value in STRANGE:
            self.assertIs(is_unsure_paper(GROWS, "x", value), plain.is_unsure_paper(GROWS.bodies, "x", value))
            self.assertIs(is_unsure_paper(TURNS, "x", value), False)
            self.assertIs(is_paper(GROWS, "x", value), plain.is_unsure_paper(GROWS.bodies, "x", value))
            self.assertIs(is_paper(PAIRS, "x", value), plain.is_sure_paper(PAIRS.bodies, "x", value))
        for call in (is_unsure_paper, is_paper):
            check_errors(lambda program, name, call=call: call(program, name, None),
                         (PAIRS, NO_PROGRAMS, InvalidProgram), ("x", NO_NAMES, UnknownName))

    def test_both_kinds_of_papers(self):
        self.assertIs(is_paper(TURNS, "x", ("sure", ((("x", 1), ("y", 1)),))), True)
        self.assertIs(is_paper(TURNS, "x", ("unsure", ((("x", 1), ("y", 1)),))), False)
        self.assertIs(is_paper(LEAKS, "z", ("unsure", (("z", Fraction(9, 10)),))), True)
        self.assertIs(is_paper(LEAKS, "z", ("sure", (("z", Fraction(9, 10)),))), False)


class NextAndLesserTest(unittest.TestCase):
    def setUp(self):
        self.draw = random.Random(123)

    def papers(self, program, name):
        """Some unsure papers of a procedure: one that was found, greater ones, and next ones."""
        found = unsure_paper(program, name)
        if found is None:
            return []
        papers = [found]
        for part in (1, 7):
            # Next values are bent upwards, so what lies between a paper and 1 is often one.
            greater = ("unsure", tuple((one, as_own(1 - (1 - as_python(value)) * (1 - part / plain.fractions.Fraction(9))))
                                       for one, value in found[1]))
            if plain.is_unsure_paper(program.bodies, name, greater):
                papers.append(greater)
                papers.append(next_paper(program, name, greater))
        return papers

    def test_drawn_programs(self):
        compared = 0
        for _ in range(150):
            program = self.draw.choice((drawn_program, drawn_small_program))(self.draw)
            name = self.draw.choice(program.names)
            papers = self.papers(program, name)
            for paper in papers:
                further = next_paper(program, name, paper)
                self.assertTrue(plain.is_unsure_paper(program.bodies, name, further))
                values = dict(paper[1])
                expected = next_values(program, {one: values.get(one, 0) for one in program.names})
                self.assertEqual(further, ("unsure", tuple((one, expected[one]) for one in reaches(program, name))))
                self.assertTrue(all(type(value) is Fraction for _, value in further[1]))
                for other in papers:
                    lesser = lesser_paper(program, name, paper, other)
                    self.assertTrue(plain.is_unsure_paper(program.bodies, name, lesser))
                    expected = tuple((one, as_own(min(as_python(value), as_python(dict(other[1])[one]))))
                                     for one, value in paper[1])
                    self.assertEqual(lesser, ("unsure", expected))
                    self.assertTrue(all(type(value) is Fraction for _, value in lesser[1]))
                    compared += paper != other
        self.assertGreater(compared, 100)

    def test_next_values_stay_above_the_chances(self):
        for program, name in ((GROWS, "x"), (LEAKS, "x"), (LEAKS, "z")):
            paper = unsure_paper(program, name)
            low, _ = bounds(program, name, Fraction(1, 10 ** 40))
            for _ in range(4):
                paper = next_paper(program, name, paper)
                self.assertFalse(dict(paper[1])[name].is_less(low))

    def test_examples_with_several_values(self):
        one = ("unsure", (("x", Fraction(19, 20)), ("z", Fraction(9, 10))))
        other = ("unsure", (("x", Fraction(94, 100)), ("z", Fraction(91, 100))))
        self.assertEqual([is_unsure_paper(LEAKS, "x", one), is_unsure_paper(LEAKS, "x", other)], [True, True])
        expected = ("unsure", (("x", Fraction(94, 100)), ("z", Fraction(9, 10))))
        self.assertEqual(lesser_paper(LEAKS, "x", one, other), expected)
        self.assertEqual(lesser_paper(LEAKS, "x", other, one), expected)
        self.assertEqual(next_paper(LEAKS, "x", other),
                         ("unsure", (("x", HALF + HALF * Fraction(94 * 91, 10000)), ("z", Fraction(9, 10)))))
        whole = ("unsure", (("x", 0),))
        loop = program_of("x = x")
        self.assertIs(type(next_paper(loop, "x", whole)[1][0][1]), Fraction)
        self.assertIs(type(lesser_paper(loop, "x", whole, whole)[1][0][1]), Fraction)

    def test_errors(self):
        right = ("unsure", (("x", HALF),))
        check_errors(next_paper, (GROWS, NO_PROGRAMS, InvalidProgram), ("x", NO_NAMES, UnknownName),
                     (right, NO_PAPERS, InvalidOperation))
        check_errors(lesser_paper, (GROWS, NO_PROGRAMS, InvalidProgram), ("x", NO_NAMES, UnknownName),
                     (right, NO_PAPERS, InvalidOperation), (right, NO_PAPERS, InvalidOperation))
        for bent in plain.bent(("unsure", (("x", Fraction(19, 20)), ("z", Fraction(9, 10)))), STRANGE[:14]):
            for call in (lambda value: next_paper(LEAKS, "x", value),
                         lambda value: lesser_paper(LEAKS, "x", value, value)):
                if plain.is_unsure_paper(LEAKS.bodies, "x", bent):
                    call(bent)
                else:
                    raised(InvalidOperation, call, bent)
        raised(InvalidOperation, next_paper, PAIRS, "x", sure_paper(PAIRS, "x"))


if __name__ == "__main__":
    unittest.main()

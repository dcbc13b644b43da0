import fractions
import random
import unittest

import plain
from helpers import (
    GROWS,
    LEAKS,
    PAIRS,
    PICKS,
    PRIMES,
    STRANGE,
    TURNS,
    as_own,
    as_python,
    drawn_program,
    drawn_small_program,
    edge_line,
    is_integer,
    program_of,
    raised,
)
from order import check_errors, strange_but
from surelyends.errors import InvalidFraction, InvalidOperation, InvalidProgram, UnknownName
from surelyends.numbers.fractions import Fraction
from surelyends.papers.bounds import between_paper, bounds, is_between_paper
from surelyends.papers.verdicts import sure_procedures
from surelyends.programs.programs import Program
from surelyends.runs.runs import ends_by

FINEST = Fraction(1, 10 ** 40)
ERRORS = (1, Fraction(1, 2), Fraction(1, 1000), Fraction(3, 10 ** 17), FINEST)
NO_PROGRAMS = strange_but(lambda value: isinstance(value, Program) and value.is_closed)
NO_NAMES = strange_but(lambda value: type(value) is str and value == "x")
NO_FRACTIONS = strange_but(lambda value: type(value) is Fraction or is_integer(value))
TOO_SMALL = [0, -1, -(10 ** 999), Fraction(-1, 2), Fraction(1, 10 ** 40 + 1), Fraction(1, 10 ** 999), FINEST - Fraction(1, 10 ** 900)]


class BetweenPaperTest(unittest.TestCase):
    def setUp(self):
        self.draw = random.Random(131)

    def check(self, program, error):
        """The lows and highs of a paper, which differ by at most the error."""
        paper = between_paper(program, error)
        self.assertTrue(plain.is_between_paper(program.bodies, paper), paper)
        self.assertIs(is_between_paper(program, paper), True)
        word, layers, rows = paper
        self.assertEqual(plain.layers_names(program.bodies, layers), set(sure_procedures(program)))
        for name, low, high in rows:
            self.assertEqual((type(low), type(high)), (Fraction, Fraction))
            self.assertLessEqual(as_python(high) - as_python(low), as_python(error))
            self.assertLess(len(str(high.bottom)), 4000)
        # Paper or not, other bounds have to meet these, as both tell of the same chance.
        for name in program.names:
            low, high = bounds(program, name, error)
            self.assertEqual((type(low), type(high)), (Fraction, Fraction))
            self.assertTrue(0 <= as_python(low) <= as_python(high) <= 1)
            self.assertLessEqual(as_python(high) - as_python(low), as_python(error))
            _, other_low, other_high = [row for row in rows if row[0] == name][0]
            self.assertFalse(high.is_less(other_low))
            self.assertFalse(other_high.is_less(low))
        return {name: (as_python(low), as_python(high)) for name, low, high in rows}

    def test_drawn_programs(self):
        for _ in range(100):
            for program in (drawn_program(self.draw, most=2), drawn_small_program(self.draw)):
                coarse = self.check(program, self.draw.choice(ERRORS[:3]))
                fine = self.check(program, self.draw.choice(ERRORS[3:]))
                for name, (low, high) in fine.items():
                    self.assertLessEqual(low, coarse[name][1])
                    self.assertLessEqual(coarse[name][0], high)
                    self.assertLessEqual(as_python(ends_by(program, name, 14, 14)), high)

    def test_known_chances(self):
        whole, part = fractions.Fraction(1), fractions.Fraction
        for text, expected in (
                ("x =", {"x": whole}), ("x = ~", {"x": 0}), ("x = x", {"x": 0}), ("x = x x", {"x": 0}), ("x = [1: | 1: x x]", {"x": whole}),
                ("x = [1: | 2: x x]", {"x": part(1, 2)}), ("x = [1: | 99: x x]", {"x": part(1, 99)}),
                ("x = [49: | 50: x x]", {"x": part(49, 50)}), ("x = {1/2: x}", {"x": part(1, 2)}), ("x = {98/99: x}", {"x": part(98, 99)}),
                ("x = [1: !a | 1: x z]\nz = [9: | 1: ~]", {"x": part(10, 11), "z": part(9, 10)}),
                ("x = [99: | 1: [99: | 1: [99: | 1: [99: | 1: ~]]]]", {"x": 1 - part(1, 10 ** 8)}),
                ("x = [99: ~ | 1: [99: ~ | 1: [99: ~ | 1: [99: ~ | 1:]]]]", {"x": part(1, 10 ** 8)}),
                ("x = y y y y y y y y\ny = [99: ~ | 1: [99: ~ | 1: [99: ~ | 1: [99: ~ | 1:]]]]",
                 {"x": part(1, 10 ** 64), "y": part(1, 10 ** 8)}),
                ("x = [1: | 1: y]\ny = x y", {"x": part(1, 2), "y": 0}), ("x = [1: | 1: x] z\nz = [3: x | 1: ~]", {"x": 0, "z": 0}),
                ("x = [2: z | 1: x x]\nz = [4: | 1: ~]", None),
        ):
            for error in ERRORS:
                found = self.check(program_of(text), error)
                for name, chance in (expected or {}).items():
                    low, high = found[name]
                    self.assertTrue(low <= chance <= high, (text, name))
                    self.assertEqual(high == 1, chance == 1)
                    if chance in (0, 1):
                        self.assertEqual((low, high), (chance, chance))

    def test_chances_very_near_1_and_0(self):
        for names, ends, other, chance in (("abcdefgh", ":", ": ~", 1 - fractions.Fraction(1, 10 ** 64)),
                                           ("abcdef", ": ~", ":", fractions.Fraction(1, 10 ** 48))):
            lines = []
            for behind, name in zip("-" + names, names):
                last = other[2:] if name == "a" else behind
                lines.append(f"{name} = [99{ends} | 1: [99{ends} | 1: [99{ends} | 1: [99{ends} | 1: {last}]]]]".replace(": ]", ":]"))
            program = program_of("\n".join(lines))
            for error in (1, Fraction(1, 10 ** 20), FINEST):
                low, high = self.check(program, error)[names[-1]]
                self.assertTrue(low <= chance <= high < 1)
                self.assertTrue(all(high < 1 for _, high in self.check(program, error).values()))

    def test_chances_that_are_no_fractions(self):
        # 3 * x = 8/5 + x * x: the lesser one is (3 - sqrt(13/5)) / 2.
        low, high = self.check(program_of("x = [2: z | 1: x x]\nz = [4: | 1: ~]"), FINEST)["x"]
        self.assertTrue(low < high)
        self.assertGreaterEqual((3 - 2 * low) ** 2, fractions.Fraction(13, 5))
        self.assertLessEqual((3 - 2 * high) ** 2, fractions.Fraction(13, 5))
        # 2 * x = 1 + x ** 4, but for 1: 1 = x + x ** 2 + x ** 3, or 3 * x = 1 + 2 * x ** 3: (sqrt(3) - 1) / 2.
        low, high = self.check(program_of("x = [1: | 1: x x x x]"), FINEST)["x"]
        self.assertLessEqual(low + low ** 2 + low ** 3, 1)
        self.assertGreaterEqual(high + high ** 2 + high ** 3, 1)
        low, high = self.check(program_of("x = [1: | 2: x x x]"), FINEST)["x"]
        self.assertLessEqual((2 * low + 1) ** 2, 3)
        self.assertGreaterEqual((2 * high + 1) ** 2, 3)

    def test_rounds_that_rise_slowly(self):
        for primes in (PRIMES[2:6], PRIMES[5:12], PRIMES[:18], PRIMES):
            for above in (1, -1, 101, -101):
                program = program_of(edge_line("x", "x", primes, above) + "\ny = x\nz = [1: | 1: x z]")
                for error in (1, Fraction(1, 10 ** 20), FINEST):
                    found = self.check(program, error)
                    self.assertEqual([high == 1 for _, high in found.values()], [above < 0] * 3)
        names = "abcdefgh"
        for leak in ("~", "[1: | 99: ~]", "a a"):
            lines = [f"{name} = [1: | 1: {name} {name} [99: | 1: [99: | 1: {ahead}]]]" for name, ahead in zip(names[1:], names)]
            program = program_of("\n".join([f"a = [99: | 1: [99: | 1: [99: | 1: {leak}]]]"] + lines))
            for error in (1, FINEST):
                self.check(program, error)
        ring = "\n".join(f"{name} = [99: | 99: {other} {other}]" for name, other in zip(names, names[1:]))
        for weight in (98, 99):
            found = self.check(program_of(ring + f"\nh = [{weight}: | 99: a a]"), FINEST)
            self.assertEqual([high == 1 for _, high in found.values()], [weight == 99] * 8)
        # Each one is nearly even, and goes on beyond the next one by even less.
        lines = [f"{name} = [99: | 99: {name} {name} [98: | 1: {ahead}]]" for name, ahead in zip(names[1:], names)]
        self.check(program_of("\n".join(["a = [98: | 99: a a]"] + lines)), FINEST)
        self.check(program_of("\n".join(["a = [99: | 98: a a] [99: | 1: ~]"] + lines)), FINEST)

    def test_repeats(self):
        for text in ("x = {1/99: {1/99: {1/99: {1/99: x}}}}", "x = {1/1: {1/1: {1/1: {1/2: x}}}}",
                     "x = {99/1: {1/99: {99/1: {1/99: x}}}} [99: | 1: ~]", "x = {50/49: {99/98: y}}\ny = {1/1: x} {98/1: ~}",
                     "x = [1: | 99: {1/99: {1/99: {1/99: x}}}]", "x = {1/99: ~ {1/99: x}}"):
            for error in ERRORS:
                self.check(program_of(text), error)
        low, high = self.check(program_of("x = {1/1: {1/1: x}}"), FINEST)["x"]
        self.assertEqual((low, high), (1, 1))

    def test_errors_that_are_great(self):
        for error in (1, 2, 10 ** 999, Fraction(10 ** 500, 3)):
            self.check(LEAKS, error)
            self.assertEqual(bounds(PAIRS, "x", error), (1, 1))

    def test_errors(self):
        for wrong, error_class in ((NO_FRACTIONS, InvalidFraction), (TOO_SMALL, InvalidOperation)):
            check_errors(between_paper, (PAIRS, NO_PROGRAMS, InvalidProgram), (1, wrong, error_class))
            check_errors(bounds, (PAIRS, NO_PROGRAMS, InvalidProgram), ("x", NO_NAMES, UnknownName), (1, wrong, error_class))
        raised(InvalidProgram, between_paper, PICKS, 1)
        self.assertEqual(bounds(PAIRS, "x", FINEST), (1, 1))


class IsBetweenPaperTest(unittest.TestCase):
    def setUp(self):
        self.draw = random.Random(132)

    def test_bent_papers(self):
        accepted = refused = 0
        for at in range(20):
            program = drawn_small_program(self.draw) if at % 3 else drawn_program(self.draw, most=2, depth=2)
            paper = between_paper(program, self.draw.choice(ERRORS[1:4]))
            for bent in plain.bent(paper, STRANGE[:10]):
                expected = plain.is_between_paper(program.bodies, bent)
                self.assertIs(is_between_paper(program, bent), expected, (paper, bent))
                accepted += expected
                refused += not expected
        self.assertGreater(accepted, 100)
        self.assertGreater(refused, 3000)

    def test_the_edges(self):
        tiny = Fraction(1, 10 ** 300)
        half, third = Fraction(1, 2), Fraction(1, 3)
        for low, high, expected in (
                (0, half, True), (half, half, True), (0, 1 - tiny, True), (0, 1, False), (half - tiny, half + tiny, True),
                (half + tiny, 1 - tiny, False), (half + tiny, half + tiny, False), (half - tiny, half - tiny, False),
                (third, 2 * third, True), (2 * third, third, False), (half, half - tiny, False), (-tiny, half, False),
                (0, 1 + tiny, False), (0, 0, False), (1, 1, False),
        ):
            paper = ("between", (), (("x", low, high),))
            self.assertIs(is_between_paper(GROWS, paper), expected, (str(low), str(high)))
            self.assertIs(plain.is_between_paper(GROWS.bodies, paper), expected)
        # All but the conditions for sure procedures hold here.
        for layers, low, high, expected in (((("x", 1),), 1, 1, True), ((("x", 1),), 1 - tiny, 1, False), ((("x", 1),), 0, 1, False)):
            self.assertIs(is_between_paper(PAIRS, ("between", (layers,), (("x", low, high),))), expected)
        self.assertIs(is_between_paper(PAIRS, ("between", (), (("x", 1, 1),))), False)
        self.assertIs(is_between_paper(PAIRS, ("between", (), (("x", 0, 1),))), False)
        self.assertIs(is_between_paper(PAIRS, ("between", (), (("x", 0, half),))), False)
        # A procedure that cannot end has the high 0, though greater ones would be nowhere below the next values.
        loop = program_of("x = x")
        for low, high, expected in ((0, 0, True), (0, half, False), (half, half, False), (0, tiny, False)):
            self.assertIs(is_between_paper(loop, ("between", (), (("x", low, high),))), expected)

    def test_all_procedures_have_to_stand_in_it(self):
        x, z = ("x", 0, Fraction(10, 11)), ("z", Fraction(9, 10), Fraction(9, 10))
        for rows, expected in (((x, z), True), ((x,), False), ((z,), False), ((z, x), False), ((x, x, z), False), ((), False),
                               ((x, ("y", 0, 0), z), False), ([x, z], False), ((x, list(z)), False), ((x, z + (1,)), False)):
            self.assertIs(is_between_paper(LEAKS, ("between", (), rows)), expected)
        both = (("x", 1, 1), ("y", 1, 1))
        for layers, expected in ((((("x", 1), ("y", 1)),), True), (((("x", 1), ("y", Fraction(1, 3))),), False), (((("y", 1),),), False),
                                 ((), False), ([(("x", 1), ("y", 1))], False), (((("x", 1),),), False)):
            self.assertIs(is_between_paper(TURNS, ("between", layers, both)), expected)

    def test_any_value(self):
        for value in STRANGE:
            for program in (PAIRS, GROWS, LEAKS):
                self.assertIs(is_between_paper(program, value), plain.is_between_paper(program.bodies, value))
        for value in NO_PROGRAMS:
            raised(InvalidProgram, is_between_paper, value, None)

    def test_rounds_stay_below_the_highs(self):
        low, high = bounds(GROWS, "x", FINEST)
        values = {"x": fractions.Fraction(0)}
        for _ in range(7):
            values = plain.rounds(GROWS.bodies, {"x": as_own(values["x"])}, 1)
        self.assertLess(values["x"], as_python(high))
        self.assertTrue(as_python(low) <= fractions.Fraction(1, 2) <= as_python(high))


if __name__ == "__main__":
    unittest.main()

import random
import unittest

import plain
from helpers import (
    GROWS,
    LEAKS,
    PAIRS,
    PICKS,
    PRIMES,
    STRANGE,
    TURNS,
    drawn_program,
    drawn_small_program,
    edge_line,
    raised,
)
from order import check_errors, strange_but
from surelyends.chances.knots import knots, reaches
from surelyends.errors import InvalidOperation, InvalidProgram, UnknownName
from surelyends.numbers.fractions import Fraction
from surelyends.papers.sure import is_sure_paper, joined_papers, split_paper, sure_names, sure_paper
from surelyends.papers.verdicts import unsure_paper
from surelyends.programs.programs import Program
from surelyends.programs.texts import read_program

NO_PROGRAMS = strange_but(lambda value: isinstance(value, Program) and value.is_closed)
NO_NAMES = strange_but(lambda value: type(value) is str and value == "x")


def is_paper_of_pairs(value):
    return plain.is_told(value, "sure", 2) and plain.layers_names(PAIRS.bodies, value[1]) is not None


NO_PAPERS = strange_but(is_paper_of_pairs)
LAYERED = read_program("a = [1: | 1: b b]\nb = {2/1: a}\nc = a b {2/1: c}\nd = [1: c | 2: d]\ne = !z\nf = a f")


def are_own(paper):
    return all(type(weight) is Fraction for layer in paper[1] for _, weight in layer)


class SurePaperTest(unittest.TestCase):
    def setUp(self):
        self.draw = random.Random(111)

    def check(self, program):
        """How many procedures are sure, each shown by a paper, as the others are unsure by a paper."""
        many = 0
        for name in program.names:
            paper = sure_paper(program, name)
            if paper is None:
                other = unsure_paper(program, name)
                self.assertTrue(plain.is_unsure_paper(program.bodies, name, other))
                continue
            many += 1
            self.assertTrue(plain.is_sure_paper(program.bodies, name, paper), paper)
            self.assertTrue(are_own(paper))
            self.assertIs(is_sure_paper(program, name, paper), True)
            self.assertLessEqual(set(reaches(program, name)), set(sure_names(program, paper)))
        return many

    def test_drawn_programs(self):
        sure = unsure = 0
        for _ in range(200):
            for program in (drawn_program(self.draw), drawn_small_program(self.draw)):
                many = self.check(program)
                sure += many
                unsure += len(program) - many
        self.assertGreater(sure, 200)
        self.assertGreater(unsure, 200)

    def test_what_is_sure(self):
        for text, expected in (
                ("", True), ("!a !b", True), ("~", False), ("[99: | 1: ~]", False), ("{99/1: ~}", False), ("x", False),
                ("x x", False), ("y", True), ("y y y", True), ("z", False), ("[99: | 1: z]", False), ("w", False),
                ("[1: | 99: x]", True), ("[1: x | 99: x]", False), ("[1: | 1: x x]", True), ("[49: | 50: x x]", False),
                ("{1/1: x}", True), ("{98/99: x}", False), ("{99/98: x x}", False), ("{1/1: x} y", True), ("{1/1: x} w", False),
                ("y [1: | 1: x x] y", True), ("[1: | 1: x] [1: | 1: x]", True), ("x [1: | 1:]", False),
        ):
            program = read_program(f"w = w\nx = {text}\ny = {{1/1: y}}\nz = [99: | 1: ~]".replace("x = \n", "x =\n"))
            self.assertEqual(sure_paper(program, "x") is not None, expected, text)
            self.assertEqual([sure_paper(program, name) is None for name in "wyz"], [True, False, True])
            self.check(program)

    def test_just_at_the_edge_and_beside_it(self):
        for primes in (PRIMES[2:6], PRIMES[5:12], PRIMES):
            for above, expected in ((1, None), (-1, "sure"), (101, None), (-101, "sure")):
                program = read_program(edge_line("x", "x", primes, above) + "\ny = x\nz = [1: | 1: x z]")
                for name in "xyz":
                    paper = sure_paper(program, name)
                    self.assertEqual(paper and paper[0], expected)
                self.check(program)

    def test_layers(self):
        self.assertEqual([sure_paper(LAYERED, name) is not None for name in "abcdef"], [True] * 5 + [False])
        self.check(LAYERED)
        names = "abcdefgh"
        chain = read_program("\n".join(f"{name} = {{1/1: {name}}} {behind}" for name, behind in zip(names, names[1:])) + "\nh =")
        self.assertEqual(self.check(chain), 8)

    def test_errors(self):
        check_errors(sure_paper, (PAIRS, NO_PROGRAMS, InvalidProgram), ("x", NO_NAMES, UnknownName))
        self.assertEqual([sure_paper(GROWS, "x"), sure_paper(LEAKS, "x"), sure_paper(LEAKS, "z")], [None] * 3)


class IsSurePaperTest(unittest.TestCase):
    def setUp(self):
        self.draw = random.Random(112)

    def test_bent_papers(self):
        accepted = refused = 0
        for _ in range(60):
            program = self.draw.choice((drawn_program, drawn_small_program))(self.draw)
            papers = [(name, paper) for name in program.names if (paper := sure_paper(program, name)) is not None]
            for name, paper in papers[:2]:
                for bent in plain.bent(paper, STRANGE[:14]):
                    expected = plain.is_sure_paper(program.bodies, name, bent)
                    self.assertIs(is_sure_paper(program, name, bent), expected, (paper, bent))
                    accepted += expected
                    refused += not expected
        self.assertGreater(accepted, 300)
        self.assertGreater(refused, 3000)

    def test_bent_papers_of_several_layers(self):
        ab, c, d, e = (("a", 1), ("b", Fraction(2, 3))), (("c", 5),), (("d", 5),), (("e", 10 ** 99),)
        for layers, expected in (
                ((ab, c, d), True), ((ab, c, d, e), True), ((e, ab, c, d), True), ((ab, c + d), True), ((ab + c, d), True),
                ((ab + c + d,), True), ((ab, e, c, d), True), ((c, ab, d), False), ((ab, d, c), False), ((c, d), False), ((ab, c), False),
                ((ab, c, d, d), False), ((ab, c, ab, d), False), ((ab[:1], ab[1:], c, d), False), ((ab, c, d, ()), False),
                ((ab[::-1], c, d), False), ((ab, d + c), False), ((ab, c, d, (("f", 1),)), False), ((), False),
                ((ab, c, d, (("z", 1),)), False), ([ab, c, d], False), ((ab, list(c), d), False), ((list(ab), c, d), False),
        ):
            self.assertIs(is_sure_paper(LAYERED, "d", ("sure", layers)), expected, layers)
            self.assertIs(plain.is_sure_paper(LAYERED.bodies, "d", ("sure", layers)), expected, layers)
        # What stands in one layer has to have weights that tell of all calls in it.
        less = Fraction(1, 10 ** 200)
        for weights, expected in (((1, 1, 4, 4), True), ((1, 1, 4, 4 - less), False), ((1, 1, 4 - less, 4), False), ((1, 1, 5, 5), True),
                                  ((1, 1 + less, 4, 4), False), ((1 + less, 1, 4, 4), False), ((1, Fraction(1, 2), 3, 3), True)):
            layer = tuple(zip("abcd", weights))
            self.assertIs(is_sure_paper(LAYERED, "d", ("sure", (layer,))), expected)
            self.assertIs(plain.is_sure_paper(LAYERED.bodies, "d", ("sure", (layer,))), expected)
        for weight, expected in ((1, True), (10 ** 99, True), (0, False), (-1, False)):
            self.assertIs(is_sure_paper(LAYERED, "d", ("sure", (ab, c, (("d", weight),)))), expected)

    def test_each_condition_of_a_layer(self):
        for text, layers, expected in (
                ("[1: | 1: x ~]", ((("x", 1),),), False), ("x", ((("x", 1),),), False), ("[1: | 1: y]", ((("x", 1),),), False),
                ("[1: | 1: y]", ((("y", 1),), (("x", 1),)), True), ("[1: | 1: y]", ((("x", 1), ("y", 1)),), True),
                ("[1: | 1: y]", ((("x", Fraction(1, 2)), ("y", 1)),), True),
                ("[1: | 1: y]", ((("x", Fraction(49, 100)), ("y", 1)),), False),
                ("y y", ((("y", 1),), (("x", 1),)), True), ("y y", ((("x", 1), ("y", 1)),), False),
                ("y y", ((("x", 2), ("y", 1)),), True), ("[1: | 1: x x]", ((("x", 1),),), True),
                ("[1: | 1: x x]", ((("x", 0),),), False), ("[1: | 1: x x]", ((("x", -1),),), False),
                ("[49: | 50: x x]", ((("x", 1),),), False), ("y", ((("y", 1), ("x", 1)),), False),
                ("y y", ((("y", 1),), (("x", 2), ("y", 1))), False), ("y y", ((("x", 2), ("y", 1)), (("y", 1),)), False),
                ("y", ((("w", 1),), (("y", 1),), (("x", 1),)), False), ("y", ((("w", 1), ("x", 1), ("y", 1)),), False),
                ("y", ((("x", 1), ("x", 1), ("y", 1)),), False),
        ):
            program = read_program(f"x = {text}\ny =")
            self.assertIs(is_sure_paper(program, "x", ("sure", layers)), expected, (text, layers))

    def test_any_value(self):
        for value in STRANGE:
            self.assertIs(is_sure_paper(PAIRS, "x", value), plain.is_sure_paper(PAIRS.bodies, "x", value))
            self.assertIs(is_sure_paper(LEAKS, "x", value), False)
        check_errors(lambda program, name: is_sure_paper(program, name, None),
                     (PAIRS, NO_PROGRAMS, InvalidProgram), ("x", NO_NAMES, UnknownName))
        raised(InvalidProgram, is_sure_paper, PICKS, "x", None)
        self.assertIs(is_sure_paper(TURNS, "x", ("sure", ())), False)


class SplitAndJoinedTest(unittest.TestCase):
    def setUp(self):
        self.draw = random.Random(113)

    def papers(self, program):
        found = [("sure", ())]
        for name in program.names:
            paper = sure_paper(program, name)
            if paper is not None:
                found.append(paper)
                factor = Fraction(self.draw.randint(1, 9), self.draw.randint(1, 9))
                found.append(("sure", tuple(tuple((one, factor * weight) for one, weight in layer) for layer in paper[1])))
        return found

    def check_joined(self, program, one, other):
        joined = joined_papers(program, one, other)
        names = sure_names(program, one)
        self.assertEqual(sure_names(program, joined), tuple(sorted({*names, *sure_names(program, other)})))
        self.assertEqual(joined[1][:len(one[1])], one[1])
        rest = [tuple(row for row in layer if row[0] not in names) for layer in other[1]]
        self.assertEqual(joined[1][len(one[1]):], tuple(layer for layer in rest if layer))
        self.assertTrue(are_own(joined))
        return joined

    def test_drawn_programs(self):
        joins = 0
        for _ in range(80):
            program = self.draw.choice((drawn_program, drawn_small_program))(self.draw)
            found = self.papers(program)
            for one in found:
                for other in found:
                    joined = self.check_joined(program, one, other)
                    self.assertTrue(plain.is_told(joined, "sure", 2))
                    self.assertIsNotNone(plain.layers_names(program.bodies, joined[1]))
                    joins += len(joined[1]) > len(one[1]) > 0
                self.assertEqual(sure_names(program, one), tuple(sorted(plain.layers_names(program.bodies, one[1]))))
                self.assertEqual(split_paper(program, one), one)
        self.assertGreater(joins, 20)

    def test_layers_of_several_knots(self):
        ab, c, d, e = (("a", 1), ("b", Fraction(2, 3))), (("c", 30),), (("d", 30),), (("e", 2),)
        paper = ("sure", (tuple(sorted(ab + e)), c + d))
        expected = ("sure", (ab, e, c, d))
        self.assertEqual(knots(LAYERED)[:2], (("a", "b"), ("c",)))
        self.assertEqual(split_paper(LAYERED, paper), expected)
        self.assertTrue(are_own(split_paper(LAYERED, paper)))
        self.assertIs(is_sure_paper(LAYERED, "d", expected), True)
        self.assertEqual(sure_names(LAYERED, paper), ("a", "b", "c", "d", "e"))
        self.assertEqual(split_paper(LAYERED, ("sure", ())), ("sure", ()))
        # The knots come in their order, not in that of the names.
        program = read_program("a = [1: | 1: c]\nb = [1: | 1: b]\nc =")
        paper = ("sure", ((("a", 1), ("b", 1), ("c", 2)),))
        self.assertEqual(split_paper(program, paper), ("sure", ((("b", 1),), (("c", 2),), (("a", 1),))))
        one, other = ("sure", (ab, c)), ("sure", (e, tuple((name, 7 * weight) for name, weight in ab), c + d))
        self.assertEqual(self.check_joined(LAYERED, one, other), ("sure", (ab, c, e, d)))
        self.assertEqual(self.check_joined(LAYERED, other, one), other)
        for both in ((one, other), (other, one)):
            self.assertIs(is_sure_paper(LAYERED, "d", joined_papers(LAYERED, *both)), True)

    def test_no_paper(self):
        empty = ("sure", ())
        self.assertEqual([sure_names(LEAKS, empty), split_paper(LEAKS, empty), joined_papers(LEAKS, empty, empty)],
                         [(), empty, empty])
        paper = sure_paper(TURNS, "x")
        self.assertEqual(joined_papers(TURNS, empty, paper), paper)
        self.assertEqual(joined_papers(TURNS, paper, empty), paper)

    def test_errors(self):
        right = ("sure", ((("x", 1),),))
        for call in (sure_names, split_paper):
            check_errors(call, (PAIRS, NO_PROGRAMS, InvalidProgram), (right, NO_PAPERS, InvalidOperation))
        check_errors(joined_papers, (PAIRS, NO_PROGRAMS, InvalidProgram), (right, NO_PAPERS, InvalidOperation),
                     (right, NO_PAPERS, InvalidOperation))
        for bent in plain.bent(("sure", ((("a", 1), ("b", Fraction(2, 3))), (("c", 5),))), STRANGE[:14]):
            is_right = plain.is_told(bent, "sure", 2) and plain.layers_names(LAYERED.bodies, bent[1]) is not None
            for call in (sure_names, split_paper, lambda program, value: joined_papers(program, ("sure", ()), value)):
                if is_right:
                    call(LAYERED, bent)
                else:
                    raised(InvalidOperation, call, LAYERED, bent)


if __name__ == "__main__":
    unittest.main()

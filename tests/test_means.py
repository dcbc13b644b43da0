import random
import unittest

import plain
from helpers import (
    LEAKS,
    PAIRS,
    PICKS,
    PRIMES,
    STRANGE,
    TURNS,
    as_own,
    as_python,
    drawn_program,
    drawn_small_program,
    edge_line,
    is_integer,
    program_of,
    raised,
)
from order import check_errors, strange_but
from surelyends.chances.knots import knots
from surelyends.chances.weights import pace_of
from surelyends.errors import InvalidOperation, InvalidProgram, TooMany, UnknownName
from surelyends.means.means import costs_of, finite_paper, is_finite_paper, mean_of, means_of, priced_of
from surelyends.numbers.fractions import Fraction
from surelyends.papers.verdicts import sure_procedures
from surelyends.programs.programs import Program
from surelyends.programs.texts import read_program
from surelyends.runs.runs import chance_of, ended_runs

NO_PROGRAMS = strange_but(lambda value: isinstance(value, Program) and value.is_closed)
NO_NAMES = strange_but(lambda value: type(value) is str and value == "x")
LETTERS = set("abcdefghijklmnopqrstuvwxyz")


def are_prices(value):
    if type(value) is not dict:
        return False
    return all(type(event) is str and 1 <= len(event) <= 8 and set(event) <= LETTERS and is_integer(price) and 0 <= price <= 99
               for event, price in value.items())


NO_PRICES = strange_but(are_prices) + [
    {"a": 100}, {"a": -1}, {"a": True}, {"a": None}, {"a": Fraction(1)}, {"a": "1"}, {"A": 1}, {"": 1}, {"abcdefghi": 1}, {1: 1},
    {("a",): 1}, {"a": 1, "b": 100}, {"a": 1, "b c": 1}, [("a", 1)], (("a", 1),), {"a": 1, None: 1},
]


def drawn_prices(draw):
    events = draw.sample(("a", "b", "event", "other", "z"), draw.randint(0, 5))
    return {event: draw.choice((0, 0, 1, 2, 50, 99)) for event in events}


class CostsTest(unittest.TestCase):
    def setUp(self):
        self.draw = random.Random(141)

    def test_against_the_formulas(self):
        for _ in range(200):
            program = drawn_program(self.draw)
            prices = drawn_prices(self.draw)
            kept = list(prices.items())
            found = costs_of(program, prices)
            self.assertEqual(list(found), list(program.names))
            for name in program.names:
                self.assertIs(type(found[name]), Fraction)
                self.assertEqual(as_python(found[name]), plain.cost(program[name], prices))
                self.assertEqual(priced_of(program, name, prices), plain.priced(program.bodies, name, prices))
            self.assertEqual(list(prices.items()), kept)

    def test_each_statement(self):
        prices = {"b": 7, "a": 2}
        for text, expected in (
                ("", "0"), ("!a", "2"), ("!a !b !a !c", "11"), ("a", "0"), ("~", "0"), ("~ !a", "2"), ("[1: !a | 1:]", "1"),
                ("[1: !a | 2: !b !b | 3: !c]", "5"), ("{1/1: !a}", "2"), ("{2/3: !a}", "3"), ("{3/1: !b ~} !a", "13/3"),
                ("{1/99: {1/99: {1/99: {1/99: !a}}}}", "192119202"), ("[99: | 1: {2/1: [1: !b | 1: x]}]", "7/400"),
        ):
            program = program_of(f"x = {text}\na = !a".replace("x = \n", "x =\n"))
            self.assertEqual(str(costs_of(program, prices)["x"]), expected, text)
            self.assertEqual(priced_of(program, "a", prices), ("a",))
        self.assertEqual(costs_of(PAIRS, {}), {"x": 0})

    def test_priced_procedures(self):
        program = program_of("a = !a\nb = a c\nc = c [1: | 1: d]\nd =\ne = [1: ~ | 1: b e]\nf = {1/1: !b}")
        for prices, expected in (
                ({"a": 1}, {"a": ("a",), "b": ("a", "b"), "c": (), "d": (), "e": ("a", "b", "e"), "f": ()}),
                ({"b": 1}, {"a": (), "b": (), "c": (), "d": (), "e": (), "f": ("f",)}),
                ({"a": 0, "b": 0, "c": 9}, {name: () for name in "abcdef"}), ({}, {name: () for name in "abcdef"}),
        ):
            self.assertEqual({name: priced_of(program, name, prices) for name in program.names}, expected)

    def test_errors(self):
        check_errors(costs_of, (PAIRS, NO_PROGRAMS, InvalidProgram), ({"a": 1}, NO_PRICES, InvalidOperation))
        check_errors(priced_of, (PAIRS, NO_PROGRAMS, InvalidProgram), ("x", NO_NAMES, UnknownName),
                     ({"a": 1}, NO_PRICES, InvalidOperation))
        self.assertEqual(priced_of(LEAKS, "x", {"a": 99}), ("x",))


class MeansTest(unittest.TestCase):
    def setUp(self):
        self.draw = random.Random(142)

    def check(self, program, prices):
        """A dict from the sure procedures to their means, which are shown by papers or are endless by even knots."""
        bodies = program.bodies
        means = means_of(program, prices)
        self.assertEqual(tuple(means), sure_procedures(program))
        for name in program.names:
            if name not in means:
                for call in (mean_of, finite_paper):
                    raised(InvalidOperation, call, program, name, prices)
                raised(InvalidOperation, is_finite_paper, program, name, prices, None)
                continue
            mean = mean_of(program, name, prices)
            self.assertEqual(mean, means[name])
            paper = finite_paper(program, name, prices)
            self.assertEqual(paper is None, mean is None)
            priced = plain.priced(bodies, name, prices)
            even = [knot for knot in knots(program) if knot[0] in priced and pace_of(program, knot) == "even"]
            self.assertEqual(mean is None, even != [])
            if mean is None:
                self.assertIs(is_finite_paper(program, name, prices, ("finite", ())), False)
                continue
            self.assertIs(type(mean), Fraction)
            self.assertTrue(plain.is_finite_paper(bodies, name, prices, paper), paper)
            self.assertIs(is_finite_paper(program, name, prices, paper), True)
            self.assertTrue(all(type(one) is Fraction for row in paper[1] for one in row[1:]))
            rows = {row[0]: row[1] for row in paper[1]}
            self.assertEqual(mean, rows.get(name, 0))
            self.assertEqual(name in rows, Fraction(0).is_less(mean))
        return means

    def test_drawn_programs(self):
        kinds = []
        for _ in range(150):
            for program in (drawn_program(self.draw, most=2), drawn_small_program(self.draw), drawn_small_program(self.draw)):
                for mean in self.check(program, drawn_prices(self.draw)).values():
                    kinds.append("endless" if mean is None else "zero" if mean == 0 else "finite")
        for kind, least in (("endless", 9), ("zero", 99), ("finite", 99)):
            self.assertGreater(kinds.count(kind), least, kind)

    def test_against_runs(self):
        compared = 0
        for _ in range(500):
            program = drawn_program(self.draw, most=2, depth=2)
            name = self.draw.choice(program.names)
            prices = drawn_prices(self.draw)
            try:
                runs = list(ended_runs(program, name, 12))
            except TooMany:
                continue
            chances = [as_python(chance_of(program, name, run[0])) for run in runs]
            if sum(chances) == 1:
                compared += 1
                expected = sum(chance * sum(prices.get(event, 0) for event in run[3]) for chance, run in zip(chances, runs))
                self.assertEqual(mean_of(program, name, prices), as_own(expected))
        self.assertGreater(compared, 100)

    def test_known_means(self):
        for text, expected in (
                ("", "0"), ("!a", "1"), ("!b", "0"), ("!a !a !c", "4"), ("[3: !a | 1: x]", "1"), ("[2: | 1: !a x x]", "1"),
                ("[3: | 1: !a x x]", "1/2"), ("!a [2: | 1: x x]", "3"), ("[1: | 1: !a x x]", None), ("[1: | 1: !b x x]", "0"),
                ("{1/1: !a}", "1"), ("{2/1: !a x}", "1"), ("{1/1: x} !a", None), ("{1/1: x}", "0"), ("{1/1: y}", None),
                ("y", None), ("[99: | 1: y]", None), ("z", "0"), ("z !a", "1"), ("[1: | 1: z x x]", "0"), ("w w", "8"),
                ("{3/2: w}", "8/3"), ("[1: w | 1: w w w] !c", "10"), ("[50: | 49: !a x x]", "49"),
                ("[99: | 98: x !a] w", "886/99"), ("[49: | 49: x x] w", None),
        ):
            lines = ["w = [1: !c | 1: w !c]", f"x = {text}".rstrip(" "), "y = [1: | 1: y y !a]", "z = [1: | 1: z z]"]
            program = read_program("\n".join(lines))
            means = self.check(program, {"a": 1, "c": 2})
            self.assertEqual((means["w"], means["y"], means["z"]), (4, None, 0))
            self.assertEqual(means["x"] if means["x"] is None else str(means["x"]), expected, text)

    def test_just_at_the_edge_and_beside_it(self):
        for primes in (PRIMES[2:6], PRIMES[5:12], PRIMES):
            line = edge_line("x", "x", primes, -1)
            program = program_of(f"{line} !a\ny = x !a\nz = [1: | 1: z x z]")
            means = self.check(program, {"a": 1})
            # One less its mean calls, which are all but one part of many.
            self.assertEqual(as_python(means["x"]).denominator, 1)
            self.assertGreater(as_python(means["x"]), 700)
            self.assertEqual(means["y"], means["x"] + 1)
            self.assertIsNone(means["z"])
            self.assertEqual(set(str(mean) for mean in self.check(program, {"b": 1}).values()), {"0"})
        ring = "x = [1: !a | 2: y]\ny = [3: | 5: z]\nz = {5/%d: x}"
        for go, expected in ((11, "finite"), (12, "endless"), (13, "unsure")):
            found = self.check(program_of(ring % go), {"a": 3})
            self.assertEqual(len(found), 0 if expected == "unsure" else 3)
            self.assertEqual([mean is None for mean in found.values()], [expected == "endless"] * len(found))

    def test_even_knots_with_and_without_a_cost(self):
        program = program_of("a = [1: | 1: a a]\nb = a !z\nc = [1: | 1: c c !a]\nd = c\ne = [1: | 1: e e b]\nf = {1/1: {9/1: f}} !b\ng = b d")
        self.assertEqual(self.check(program, {"z": 5}), {"a": 0, "b": 5, "c": 0, "d": 0, "e": None, "f": 0, "g": 5})
        self.assertEqual(self.check(program, {"a": 5}), {"a": 0, "b": 0, "c": None, "d": None, "e": 0, "f": 0, "g": None})
        self.assertEqual(self.check(program, {"b": 9}), {"a": 0, "b": 0, "c": 0, "d": 0, "e": 0, "f": Fraction(81, 8), "g": 0})
        self.assertEqual(self.check(program, {"other": 9, "b": 0}), {name: 0 for name in "abcdefg"})
        self.assertEqual(finite_paper(program, "g", {"a": 0}), ("finite", ()))
        self.assertEqual([row[0] for row in finite_paper(program, "g", {"z": 1})[1]], ["b", "g"])

    def test_unsure_procedures(self):
        self.assertEqual(means_of(LEAKS, {"a": 1}), {})
        program = program_of("x = [1: | 2: x x]\ny = !a")
        self.assertEqual(means_of(program, {"a": 7}), {"y": 7})
        raised(InvalidOperation, mean_of, program, "x", {})

    def test_equal_chances_can_have_other_means(self):
        program = program_of("x = [1: | 1: x]\ny = {1/1: !a y}")
        self.assertEqual(means_of(program, {"a": 1}), {"x": 0, "y": None})

    def test_errors(self):
        check_errors(means_of, (PAIRS, NO_PROGRAMS, InvalidProgram), ({"a": 1}, NO_PRICES, InvalidOperation))
        for call in (mean_of, finite_paper, lambda program, name, prices: is_finite_paper(program, name, prices, None)):
            check_errors(call, (PAIRS, NO_PROGRAMS, InvalidProgram), ("x", NO_NAMES, UnknownName),
                         ({"a": 1}, NO_PRICES, InvalidOperation))
            raised(InvalidOperation, call, LEAKS, "x", {"a": 1})
            raised(InvalidOperation, call, LEAKS, "x", {"a": 100})
            raised(UnknownName, call, LEAKS, "y", {"a": 100})
            raised(InvalidProgram, call, PICKS, "y", {"a": 100})


class IsFinitePaperTest(unittest.TestCase):
    def setUp(self):
        self.draw = random.Random(143)

    def test_bent_papers(self):
        accepted = refused = 0
        for _ in range(120):
            program = self.draw.choice((drawn_program, drawn_small_program))(self.draw)
            prices = drawn_prices(self.draw)
            for name in sure_procedures(program)[:2]:
                paper = finite_paper(program, name, prices)
                for bent in plain.bent(paper if paper is not None else ("finite", ((name, 1, 1),)), STRANGE[:10]):
                    expected = plain.is_finite_paper(program.bodies, name, prices, bent)
                    self.assertIs(is_finite_paper(program, name, prices, bent), expected, (paper, bent))
                    accepted += expected
                    refused += not expected
        self.assertGreater(accepted, 100)
        self.assertGreater(refused, 3000)

    def test_the_edges(self):
        tiny = Fraction(1, 10 ** 300)
        third = Fraction(1, 3)
        for x, y, one, other, expected in (
                (third, 2 * third, 1, 1, True), (third, 2 * third, 1, 2, False), (third, 2 * third, 2, 1, False), (third, 2 * third, 1, 2 - tiny, True),
                (third, 2 * third, Fraction(1, 2) + tiny, 1, True), (third, 2 * third, Fraction(1, 2), 1, False),
                (third + tiny, 2 * third, 1, 1, False), (third, 2 * third - tiny, 1, 1, False), (third, 2 * third, 0, 0, False),
                (third, 2 * third, -1, -1, False), (third, 2 * third, Fraction(1, 10 ** 99), Fraction(1, 10 ** 99), True), (0, 0, 1, 1, False),
        ):
            rows = (("x", x, one), ("y", y, other))
            self.assertIs(is_finite_paper(TURNS, "x", {"a": 1}, ("finite", rows)), expected, (str(one), str(other)))
            self.assertIs(plain.is_finite_paper(TURNS.bodies, "x", {"a": 1}, ("finite", rows)), expected)
        # Means below 0 can be equal to all that is asked, but where a knot grows or is even there are no weights.
        for mean in (-1, 0, 1, 5):
            self.assertIs(is_finite_paper(PAIRS, "x", {"a": 1}, ("finite", (("x", mean, 1),))), False)

    def test_just_the_priced_procedures(self):
        program = program_of("a = b c !a\nb = [1: | 1: b b]\nc = !a d\nd =")
        rows = (("a", 2, 2), ("c", 1, 1))
        self.assertIs(is_finite_paper(program, "a", {"a": 1}, ("finite", rows)), True)
        self.assertIs(is_finite_paper(program, "a", {"a": 1}, ("finite", rows[:1])), False)
        self.assertIs(is_finite_paper(program, "a", {"a": 1}, ("finite", rows + (("d", 0, 1),))), False)
        self.assertIs(is_finite_paper(program, "a", {"a": 1}, ("finite", rows[::-1])), False)
        self.assertIs(is_finite_paper(program, "c", {"a": 1}, ("finite", rows)), False)
        self.assertIs(is_finite_paper(program, "c", {"a": 1}, ("finite", rows[1:])), True)
        self.assertIs(is_finite_paper(program, "d", {"a": 1}, ("finite", ())), True)
        self.assertIs(is_finite_paper(program, "d", {"a": 1}, ("finite", (("d", 0, 1),))), False)
        self.assertIs(is_finite_paper(program, "a", {}, ("finite", ())), True)

    def test_any_value(self):
        for value in STRANGE:
            for name, prices in (("x", {"a": 1}), ("x", {}), ("y", {"a": 2})):
                self.assertIs(is_finite_paper(TURNS, name, prices, value), plain.is_finite_paper(TURNS.bodies, name, prices, value))
            self.assertIs(is_finite_paper(PAIRS, "x", {"a": 1}, value), False)


if __name__ == "__main__":
    unittest.main()

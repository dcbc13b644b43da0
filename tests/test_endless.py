import random
import unittest

import plain
from helpers import LEAKS, PAIRS, PICKS, PRIMES, STRANGE, TURNS, as_own, as_python, drawn_program, drawn_small_program, edge_line, program_of, raised
from order import check_errors
from surelyends.chances.knots import knots
from surelyends.chances.weights import pace_of
from surelyends.errors import InvalidOperation, InvalidProgram, TooMany, UnknownName
from surelyends.means.endless import (
    endless_paper,
    is_endless_paper,
    is_mean_paper,
    is_spread_paper,
    mean_paper,
    spread_of,
    spread_paper,
)
from surelyends.means.means import finite_paper, is_finite_paper, mean_of
from surelyends.numbers.fractions import Fraction
from surelyends.papers.verdicts import sure_procedures
from surelyends.programs.programs import Program
from surelyends.programs.texts import read_program
from surelyends.runs.runs import chance_of, ended_runs
from test_means import NO_NAMES, NO_PRICES, NO_PROGRAMS, drawn_prices

BENT_PARTS = STRANGE[:10]
JUDGES = (is_endless_paper, is_mean_paper, is_spread_paper)


def drawn_priced_program(draw):
    """A small program, and prices of which most are above 0."""
    return drawn_small_program(draw), {"a": draw.choice((0, 1, 7)), "b": draw.choice((0, 2, 99))}


def drawn_layers(draw):
    """A program of sure procedures, which call themselves or one another, evenly or less, and those ahead of them."""
    lines = []
    ahead = [""]
    for name, other in (("a", "b"), ("c", "d"), ("e", "f"))[:draw.randint(1, 3)]:
        note, more = draw.choice(("", "", "!a", "!b")), draw.choice(ahead)
        texts = ([f"[{draw.randint(1, 3)}: {more} | 1: {note} {name} {name}]", f"!b {more}"], [f"{{1/1: {name} {note}}}", f"[1: {name} | 3: {more} {other}]"],
                 [f"{more} {other} {other}", f"[{draw.randint(1, 2)}: | 1: {name} {note}]"], [f"[1: {other} | 1: {more}]", f"{{2/1: {name} {note}}} [1: {name} | 1:]"])
        for line in zip((name, other), draw.choice(texts)):
            text = " ".join(" = ".join(line).split())
            lines.append(text.replace(" |", "|").replace("|", " |").replace(" }", "}").replace(" ]", "]"))
        ahead += [name, other, other]
    return read_program("\n".join(lines))


def drawn_case(draw):
    sort = draw.random()
    if sort < 0.2:
        return drawn_program(draw, most=2), drawn_prices(draw)
    if sort < 0.5:
        return drawn_priced_program(draw)
    return drawn_layers(draw), {"a": draw.choice((0, 1, 7)), "b": draw.choice((0, 0, 2, 99))}


def drawn_tree(draw):
    """A program whose procedures call only those behind them, with tosses and notes."""
    names = ("x", "y", "z")
    return Program.of({name: drawn_branches(draw, names[at + 1:], 2) for at, name in enumerate(names)})


def drawn_branches(draw, names, depth):
    body = []
    for _ in range(draw.randint(0, 2)):
        sort = draw.random()
        if sort < 0.4:
            body.append(("note", draw.choice("ab")))
        elif sort < 0.6 and names:
            body.append(("call", draw.choice(names)))
        elif depth:
            many = draw.randint(2, 3)
            body.append(("toss",) + tuple((draw.randint(1, 5), drawn_branches(draw, names, depth - 1)) for _ in range(many)))
    return tuple(body)


def scaled(paper, factor):
    return paper[0], tuple((name, weight * factor) for name, weight in paper[1])


class EndlessTest(unittest.TestCase):
    def setUp(self):
        self.draw = random.Random(151)

    def check(self, program, prices):
        """How the means of the sure procedures are shown: "finite", "endless", or "none" if nothing is priced."""
        bodies = program.bodies
        found = {}
        for name in sure_procedures(program):
            endless, finite = endless_paper(program, name, prices), finite_paper(program, name, prices)
            self.assertEqual(endless is None, finite is not None)
            self.assertEqual(endless is None, mean_of(program, name, prices) is not None)
            paper = mean_paper(program, name, prices)
            self.assertIs(is_mean_paper(program, name, prices, paper), True)
            self.assertEqual(paper[0], "finite" if endless is None else "endless")
            self.assertIs(is_finite_paper(program, name, prices, paper), endless is None)
            self.assertIs(is_endless_paper(program, name, prices, paper), endless is not None)
            priced = plain.priced(bodies, name, prices)
            even = [knot for knot in knots(program) if knot[0] in priced and pace_of(program, knot) == "even"]
            self.assertEqual(endless is not None, even != [])
            if endless is not None:
                self.assertTrue(plain.is_endless_paper(bodies, name, prices, endless), endless)
                self.assertTrue(all(type(weight) is Fraction for _, weight in endless[1]))
                for factor in (7, Fraction(1, 10 ** 50)):
                    self.assertIs(is_endless_paper(program, name, prices, scaled(endless, factor)), True)
                self.assertIs(is_endless_paper(program, name, prices, scaled(endless, 0)), False)
                self.assertIs(is_endless_paper(program, name, prices, scaled(endless, -1)), False)
            found[name] = "endless" if endless is not None else "finite" if priced else "none"
        return found

    def test_drawn_programs(self):
        kinds = []
        for _ in range(160):
            kinds += self.check(*drawn_case(self.draw)).values()
        for kind, least in (("endless", 30), ("none", 30), ("finite", 30)):
            self.assertGreater(kinds.count(kind), least, kind)

    def test_even_knots_with_a_cost_and_without(self):
        lines = ["a = !a", "b = [1: | 1: b b]", "c = [1: !a | 1: c c]", "d = [1: | 1: a d d]", "e = [2: c | 1:]", "f = {1/1: b}",
                 "g = {9/1: a} [1: b | 1: f]", "h = [1: | 1: h] [9: | 1: e]"]
        program = read_program("\n".join(lines))
        told = {"a": "finite", "b": "none", "c": "endless", "d": "endless", "e": "endless", "f": "none", "g": "finite", "h": "endless"}
        self.assertEqual(self.check(program, {"a": 1}), told)
        self.assertEqual(self.check(program, {"b": 1}), {name: "none" for name in "abcdefgh"})
        self.assertEqual(self.check(program, {}), {name: "none" for name in "abcdefgh"})
        # The paper of h tells of c, and need not tell of the procedures by which it reaches it.
        for rows, expected in (
                ((("c", 1),), True), ((("c", 1), ("e", 1)), False), ((("c", 3), ("e", 2)), True), ((("c", 3), ("e", 2), ("h", 1)), False),
                ((("c", 3), ("e", 2), ("h", Fraction(2, 5))), True), ((("c", 3), ("e", 2), ("h", 99)), False), ((("e", 1),), False),
                ((("h", 1),), False), ((), False), ((("d", 1),), False), ((("b", 1),), False), ((("a", 1), ("c", 1)), False),
                ((("e", 2), ("c", 3)), False), ((("c", 1), ("c", 1)), False), ((("c", 0),), False), ((("c", -1),), False),
        ):
            self.assertIs(is_endless_paper(program, "h", {"a": 1}, ("endless", rows)), expected, rows)
            self.assertIs(plain.is_endless_paper(program.bodies, "h", {"a": 1}, ("endless", rows)), expected, rows)
            self.assertIs(is_endless_paper(program, "h", {"b": 1}, ("endless", rows)), False)

    def test_beside_the_edge(self):
        for primes in (PRIMES[2:6], PRIMES):
            for above, kind in ((0, "endless"), (-1, "finite")):
                line = edge_line("x", "x", primes, above) if above else "x = [1: | 1: x x]"
                program = program_of(f"{line} !a\ny = x")
                self.assertEqual(self.check(program, {"a": 1}), {"x": kind, "y": kind})
                self.assertIs(is_endless_paper(program, "y", {"a": 1}, ("endless", (("x", 1),))), kind == "endless")

    def test_bent_papers(self):
        accepted = refused = 0
        for _ in range(160):
            program, prices = drawn_case(self.draw)
            for name in sure_procedures(program)[:2]:
                paper = endless_paper(program, name, prices)
                if paper is None and self.draw.random() < 0.9:
                    continue
                for bent in plain.bent(paper or ("endless", ((name, 1),)), BENT_PARTS):
                    expected = plain.is_endless_paper(program.bodies, name, prices, bent)
                    self.assertIs(is_endless_paper(program, name, prices, bent), expected, (paper, bent))
                    expected = expected or plain.is_finite_paper(program.bodies, name, prices, bent)
                    self.assertIs(is_mean_paper(program, name, prices, bent), expected, (paper, bent))
                    accepted += expected
                    refused += not expected
        self.assertGreater(accepted, 60)
        self.assertGreater(refused, 1500)

    def test_any_value(self):
        for value in STRANGE + (("endless", ()), ("endless", (("x", 1),)), ("finite", (("x", 1),)), ("endless", (("x", 1, 1),))):
            for program, prices in ((PAIRS, {"a": 1}), (PAIRS, {}), (TURNS, {"a": 2})):
                endless = plain.is_endless_paper(program.bodies, "x", prices, value)
                finite = plain.is_finite_paper(program.bodies, "x", prices, value)
                self.assertIs(is_endless_paper(program, "x", prices, value), endless)
                self.assertIs(is_mean_paper(program, "x", prices, value), endless or finite)

    def test_errors(self):
        calls = [endless_paper, mean_paper, spread_of, spread_paper]
        calls += [lambda program, name, prices, judge=judge: judge(program, name, prices, None) for judge in JUDGES]
        for call in calls:
            check_errors(call, (TURNS, NO_PROGRAMS, InvalidProgram), ("x", NO_NAMES + ["z"], UnknownName),
                         ({"a": 1}, NO_PRICES, InvalidOperation))
            raised(InvalidOperation, call, LEAKS, "x", {"a": 1})
            raised(UnknownName, call, LEAKS, "y", {"a": 100})
            raised(InvalidProgram, call, PICKS, "y", {"a": 100})
        raised(InvalidOperation, spread_of, PAIRS, "x", {"a": 1})
        self.assertEqual(spread_of(PAIRS, "x", {"b": 1}), 0)
        raised(UnknownName, spread_of, PAIRS, "y", {"a": 1})


class SpreadTest(unittest.TestCase):
    def setUp(self):
        self.draw = random.Random(152)

    def check(self, program, prices):
        bodies = program.bodies
        found = {}
        for name in sure_procedures(program):
            kept = dict(prices)
            paper = spread_paper(program, name, prices)
            self.assertEqual(prices, kept)
            finite = finite_paper(program, name, prices)
            self.assertEqual(paper is None, finite is None)
            if paper is None:
                raised(InvalidOperation, spread_of, program, name, prices)
                self.assertIs(is_spread_paper(program, name, prices, ("spread", ())), False)
                continue
            self.assertTrue(plain.is_spread_paper(bodies, name, prices, paper), paper)
            self.assertIs(is_spread_paper(program, name, prices, paper), True)
            self.assertTrue(all(type(one) is Fraction for row in paper[1] for one in row[1:]))
            self.assertEqual([(row[0], row[1]) for row in paper[1]], [row[:2] for row in finite[1]])
            spread = spread_of(program, name, prices)
            self.assertIs(type(spread), Fraction)
            self.assertEqual(spread, {row[0]: row[2] for row in paper[1]}.get(name, 0))
            self.assertFalse(spread.is_less(0))
            # The formulas hold for the bodies themselves, too.
            told = {row[0]: (as_python(row[1]), as_python(row[2])) for row in paper[1]}
            mean, again = plain.mean_and_spread(bodies[name], told, prices)
            self.assertEqual((as_own(mean), as_own(again)), (mean_of(program, name, prices), spread))
            found[name] = spread
        return found

    def test_drawn_programs(self):
        kinds = []
        for _ in range(160):
            kinds += [spread == 0 for spread in self.check(*drawn_case(self.draw)).values()]
        self.assertGreater(kinds.count(True), 30)
        self.assertGreater(kinds.count(False), 30)

    def test_against_all_runs(self):
        compared = above = 0
        for _ in range(300):
            program = self.draw.choice((drawn_tree(self.draw), drawn_program(self.draw, most=2, depth=2)))
            name = program.names[0]
            prices = {"a": self.draw.randint(0, 9), "event": 5, "b": self.draw.randint(1, 99)}
            try:
                runs = list(ended_runs(program, name, 12))
            except TooMany:
                continue
            chances = [as_python(chance_of(program, name, run[0])) for run in runs]
            if sum(chances) == 1:
                compared += 1
                worths = [sum(prices.get(event, 0) for event in run[3]) for run in runs]
                mean = sum(chance * worth for chance, worth in zip(chances, worths))
                expected = sum(chance * (worth - mean) ** 2 for chance, worth in zip(chances, worths))
                self.assertEqual(spread_of(program, name, prices), as_own(expected))
                above += expected > 0
        self.assertGreater(compared, 100)
        self.assertGreater(above, 25)

    def test_against_most_runs(self):
        # The runs that are left out are longer; their chances, and what they cost, are small here.
        prices = {"a": 3, "b": 1}
        for text in ("{9/1: !a}", "[29: !b | 1: x !a]", "[99: | 1: !a x]", "{29/1: {29/1: !a} !b}", "!a [8: | 1: !a] {59/1: y}",
                     "[49: y | 1: y x]", "[3: y y | 2: !a !a {49/1: !b}]"):
            program = program_of(f"x = {text}\ny = [2: !a | 1: !b !b | 1:]")
            runs = list(ended_runs(program, "x", 10))
            chances = [as_python(chance_of(program, "x", run[0])) for run in runs]
            worths = [sum(prices.get(event, 0) for event in run[3]) for run in runs]
            mean = sum(chance * worth for chance, worth in zip(chances, worths)) / sum(chances)
            near = sum(chance * (worth - mean) ** 2 for chance, worth in zip(chances, worths)) / sum(chances)
            spread = as_python(spread_of(program, "x", prices))
            self.assertLess(abs(spread - near), spread / 50, (text, float(spread), float(near)))

    def test_known_spreads(self):
        for text, expected in (
                ("", "0"), ("!a !a", "0"), ("!b", "0"), ("[1: !a | 1:]", "1/4"), ("[1: !a !a | 1:]", "1"), ("[1: !a | 2: | 1: !a !a !a]", "3/2"),
                ("{1/1: !a}", "2"), ("{2/1: !a}", "3/4"), ("{1/2: !a}", "6"), ("{1/1: !a} {1/1: !a}", "4"), ("{1/1: [1: !a | 1:]}", "3/4"),
                ("y", "0"), ("[1: y | 1:]", "25/4"), ("w", "0"), ("[1: | 1: w] [1: !b |1: !c]".replace("|1", "| 1"), "1"), ("{2/1: y [1: !a | 1: y]}", "50"),
        ):
            program = program_of(f"x = {text}\ny = !a !c !c\nw = [1: | 1: w w]".replace("= \n", "=\n"))
            found = self.check(program, {"a": 1, "c": 2})
            self.assertEqual((str(found["x"]), found["y"], found["w"]), (expected, 0, 0), text)
        twice = read_program("x = !a [2: | 1: x x]")
        self.assertEqual([str(spread_of(twice, "x", {"a": price, "b": 99})) for price in (0, 1, 2, 99)], ["0", "24", "96", "235224"])

    def test_bent_papers(self):
        accepted = refused = 0
        for _ in range(150):
            program, prices = drawn_case(self.draw)
            for name in sure_procedures(program)[:2]:
                paper = spread_paper(program, name, prices)
                for bent in plain.bent(paper if paper is not None else ("spread", ((name, 1, 1, 1),)), BENT_PARTS):
                    expected = plain.is_spread_paper(program.bodies, name, prices, bent)
                    self.assertIs(is_spread_paper(program, name, prices, bent), expected, (paper, bent))
                    accepted += expected
                    refused += not expected
        self.assertGreater(accepted, 100)
        self.assertGreater(refused, 3000)

    def test_the_edges_of_the_judge(self):
        tiny = Fraction(1, 10 ** 200)
        twice = read_program("x = !a [2: | 1: x x]\ny = [1: x | 1:]")
        for row, expected in (
                ((3, 24, 1), True), ((3, 24, tiny), True), ((3, 24 + tiny, 1), False), ((3, 24 - tiny, 1), False), ((3 + tiny, 24, 1), False),
                ((3, 24, 0), False), ((3, 24, -1), False), ((24, 3, 1), False), ((3, 0, 1), False),
        ):
            self.assertIs(is_spread_paper(twice, "x", {"a": 1}, ("spread", (("x",) + row,))), expected, row)
        rows = (("x", 3, 24, 1), ("y", Fraction(3, 2), 12 + Fraction(9, 4), 1))
        self.assertIs(is_spread_paper(twice, "y", {"a": 1}, ("spread", rows)), True)
        for wrong in (rows[:1], rows[1:], rows[::-1], rows + rows[1:], (rows[0], ("y", Fraction(3, 2), 12, 1)), rows + (("z", 0, 0, 1),)):
            self.assertIs(is_spread_paper(twice, "y", {"a": 1}, ("spread", wrong)), False)
        self.assertIs(is_spread_paper(twice, "x", {"a": 1}, ("spread", rows)), False)
        self.assertIs(is_spread_paper(twice, "x", {"b": 1}, ("spread", ())), True)

    def test_any_value(self):
        for value in STRANGE + (("spread", ()), ("spread", (("x", 1, 1, 1),)), ("spread", (("x", 0, 0, 1),)), ("spread", None), ("spread", (), ())):
            for program, prices in ((PAIRS, {"a": 1}), (PAIRS, {}), (TURNS, {"a": 2})):
                expected = plain.is_spread_paper(program.bodies, "x", prices, value)
                self.assertIs(is_spread_paper(program, "x", prices, value), expected)


if __name__ == "__main__":
    unittest.main()

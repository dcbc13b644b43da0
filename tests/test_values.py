import fractions
import random
import unittest

import plain
from helpers import GROWS, LEAKS, PAIRS, PICKS, TURNS, as_own, as_python, drawn_program, is_integer, raised
from order import check_errors, strange_but
from surelyends.chances.knots import mean_calls
from surelyends.chances.values import MAX_DEGREE, is_values, next_values, rounds_of, slopes, within
from surelyends.errors import InvalidNumber, InvalidProgram, InvalidValues, TooMany, UnknownName
from surelyends.numbers.fractions import Fraction
from surelyends.programs.programs import Program
from surelyends.programs.texts import read_program
from surelyends.runs.runs import ends_by

HALF = Fraction(1, 2)
NO_PROGRAMS = strange_but(lambda value: isinstance(value, Program) and value.is_closed)
NO_VALUES_OF_X = strange_but(lambda value: type(value) is dict and list(value) == ["x"] and type(value["x"]) in (
    int, Fraction) and 0 <= as_python(value["x"]) <= 1)
NO_NAMES = strange_but(lambda value: type(value) is str and value == "x")
NO_NUMBERS = strange_but(lambda value: is_integer(value) and value >= 0)


def drawn_values(draw, names):
    names = list(names)
    draw.shuffle(names)
    found = {}
    for name in names:
        bottom = draw.choice((1, 1, 2, 3, draw.randint(1, 50), 10 ** draw.randint(1, 60)))
        value = Fraction(draw.randint(0, bottom), bottom)
        found[name] = value.top if value.bottom == 1 and draw.random() < 0.5 else value
    return found


def are_fractions(values):
    return all(type(value) is Fraction for value in values.values())


class NextValuesTest(unittest.TestCase):
    def setUp(self):
        self.draw = random.Random(81)

    def test_against_the_formulas(self):
        for _ in range(400):
            program = drawn_program(self.draw)
            values = drawn_values(self.draw, program.names)
            kept = dict(values)
            found = next_values(program, values)
            self.assertEqual(list(found), list(program.names))
            self.assertTrue(are_fractions(found))
            for name in program.names:
                self.assertEqual(as_python(found[name]), plain.next_value(program[name], values))
            self.assertEqual((list(values), list(values.values())), (list(kept), list(kept.values())))
            self.assertIs(is_values(program, values), True)
            self.assertIs(is_values(program, found), True)

    def test_each_statement(self):
        values = {"x": Fraction(1, 3), "y": 0, "z": 1}
        for text, expected in (
                ("", "1"), ("!a", "1"), ("!a !b", "1"), ("~", "0"), ("!a ~", "0"), ("x", "1/3"), ("x x", "1/9"),
                ("x y", "0"), ("x z", "1/3"), ("[1: | 1:]", "1"), ("[1: x | 1:]", "2/3"), ("[1: x | 2: ~]", "1/9"),
                ("[1: x | 2: | 3: y]", "7/18"), ("[1: | 2: x | 3: x x | 4: ~]", "1/5"), ("{1/1:}", "1"),
                ("{1/1: ~}", "1/2"), ("{1/2: ~}", "1/3"), ("{1/2: x}", "3/7"), ("{2/1: x}", "3/4"), ("{5/99: y}", "5/104"),
                ("{99/1: z}", "1"), ("{1/2: x} x", "1/7"), ("{1/1: {1/1: x}}", "5/7"), ("[1: {1/2: x} | 1: x]", "8/21"),
        ):
            program = read_program(f"x = {text}\ny =\nz =".replace("x = \n", "x =\n"))
            self.assertEqual(str(next_values(program, values)["x"]), expected, text)

    def test_greater_values_have_no_lesser_next_values(self):
        for _ in range(150):
            program = drawn_program(self.draw)
            one, other = drawn_values(self.draw, program.names), drawn_values(self.draw, program.names)
            lesser = {name: min(as_python(one[name]), as_python(other[name])) for name in one}
            found = next_values(program, {name: as_own(value) for name, value in lesser.items()})
            for values in (one, other):
                for name, value in next_values(program, values).items():
                    self.assertFalse(value.is_less(found[name]))

    def test_results_are_independent(self):
        values = {"x": 1}
        next_values(PAIRS, values)["x"] = 5
        slopes(PAIRS, values)["x"]["x"] = 5
        rounds_of(PAIRS, values, 0)["x"] = 5
        self.assertEqual(values, {"x": 1})
        self.assertEqual(slopes(PAIRS, values)["x"]["x"], 1)

    def test_long_fractions(self):
        value = Fraction(10 ** 998 + 7, 10 ** 999 + 9)
        program = read_program("x = " + " ".join(["x"] * 60))
        self.assertEqual(as_python(next_values(program, {"x": value})["x"]), as_python(value) ** 60)
        self.assertEqual(as_python(slopes(program, {"x": value})["x"]["x"]), 60 * as_python(value) ** 59)

    def test_errors(self):
        for call in (next_values, slopes):
            check_errors(call, (PAIRS, NO_PROGRAMS, InvalidProgram), ({"x": 1}, NO_VALUES_OF_X, InvalidValues))
            for value in ({"x": 1}, {"y": 1}, {"x": 1, "y": 2}, {"x": 1, "y": Fraction(-1, 9)}, {"x": 1, "z": 1},
                          {"x": 1, "y": 1, "z": 1}, {"x": 1, "y": Fraction(10, 9)}, {"x": None, "y": 1}):
                raised(InvalidValues, call, TURNS, value)


class IsValuesTest(unittest.TestCase):
    def test_any_value(self):
        for value in NO_VALUES_OF_X:
            self.assertIs(is_values(PAIRS, value), False)
            self.assertIs(is_values(TURNS, value), value == {"x": 1, "y": 1})
        for value in NO_PROGRAMS:
            raised(InvalidProgram, is_values, value, {"x": 1})

    def test_edges(self):
        tiny = Fraction(1, 10 ** 900)
        for value, expected in ((0, True), (1, True), (HALF, True), (tiny, True), (1 - tiny, True), (-tiny, False),
                                (1 + tiny, False), (True, False), (False, False), ("1", False), (None, False)):
            self.assertIs(is_values(PAIRS, {"x": value}), expected)
            self.assertIs(is_values(TURNS, {"y": value, "x": HALF}), expected)
        self.assertIs(is_values(TURNS, {"y": 1, "x": HALF}), True)
        self.assertIs(is_values(TURNS, {"y": 1, "x": HALF, "z": HALF}), False)
        self.assertIs(is_values(TURNS, {"x": HALF}), False)
        self.assertIs(is_values(TURNS, {"x": HALF, "z": HALF}), False)
        self.assertIs(is_values(TURNS, [("x", 1), ("y", 1)]), False)


class SlopesTest(unittest.TestCase):
    def setUp(self):
        self.draw = random.Random(82)

    def test_against_the_formulas(self):
        for _ in range(200):
            program = drawn_program(self.draw, most=2)
            values = drawn_values(self.draw, program.names)
            kept = dict(values)
            found = slopes(program, values)
            self.assertEqual(list(found), list(program.names))
            for name in program.names:
                self.assertEqual(list(found[name]), list(program.names))
                self.assertTrue(are_fractions(found[name]))
                for other in program.names:
                    self.assertEqual(as_python(found[name][other]), plain.slope(program[name], values, other))
            self.assertEqual((list(values), list(values.values())), (list(kept), list(kept.values())))

    def test_they_tell_how_next_values_rise(self):
        for _ in range(100):
            program = drawn_program(self.draw, most=2)
            values = {name: as_python(value) for name, value in drawn_values(self.draw, program.names).items()}
            name = self.draw.choice(program.names)
            if values[name] == 1:
                continue
            further = dict(values, **{name: (values[name] + 1) / 2})
            rise = further[name] - values[name]
            own = [{one: as_own(value) for one, value in told.items()} for told in (values, further)]
            before, behind = (next_values(program, told) for told in own)
            for one in program.names:
                # Next values are bent upwards.
                quotient = as_python(behind[one] - before[one]) / rise
                self.assertLessEqual(as_python(slopes(program, own[0])[one][name]), quotient)
                self.assertLessEqual(quotient, as_python(slopes(program, own[1])[one][name]))

    def test_at_1_they_are_mean_calls(self):
        compared = 0
        for _ in range(200):
            program = drawn_program(self.draw)
            if any(plain.has_stay(program[name]) for name in program.names):
                continue
            compared += 1
            found = slopes(program, {name: 1 for name in program.names})
            for name in program.names:
                self.assertEqual(found[name], mean_calls(program, name))
        self.assertGreater(compared, 50)
        # What stands beside a "stay" has no slope, but mean calls.
        program = read_program("x = ~ x")
        self.assertEqual(slopes(program, {"x": 1})["x"]["x"], 0)
        self.assertEqual(mean_calls(program, "x")["x"], 1)

    def test_zeros(self):
        program = read_program("x = x y\ny = x x")
        self.assertEqual(slopes(program, {"x": 0, "y": 1}), {"x": {"x": 1, "y": 0}, "y": {"x": 0, "y": 0}})
        self.assertEqual(slopes(program, {"x": HALF, "y": 0}), {"x": {"x": 0, "y": HALF}, "y": {"x": 1, "y": 0}})


class RoundsTest(unittest.TestCase):
    def setUp(self):
        self.draw = random.Random(83)

    def test_constant(self):
        self.assertEqual(MAX_DEGREE, 400)

    def test_so_many_rounds(self):
        for _ in range(150):
            program = drawn_program(self.draw, most=2, depth=2)
            values = drawn_values(self.draw, program.names)
            kept = dict(values)
            many = self.draw.choice((0, 0, 1, 2, 3))
            if max(plain.degrees(program.bodies, many).values()) > 60:
                continue
            found = rounds_of(program, values, many)
            self.assertEqual(list(found), list(program.names))
            self.assertTrue(are_fractions(found))
            expected = plain.rounds(program.bodies, values, many)
            self.assertEqual({name: as_python(value) for name, value in found.items()}, expected)
            self.assertEqual((list(values), list(values.values())), (list(kept), list(kept.values())))
        self.assertEqual(list(rounds_of(TURNS, {"y": 0, "x": 1}, 0).items()), [("x", Fraction(1)), ("y", Fraction(0))])

    def test_rounds_that_come_to_rest(self):
        names = "abcdefgh"
        text = "\n".join(f"{name} = {behind} {behind}" for name, behind in zip(names, names[1:])) + "\nh = [1: | 2: ~]"
        program = read_program(text)
        values = {name: HALF for name in names}
        for many in (*range(10), 100, 401, 10 ** 6, 10 ** 999):
            found = rounds_of(program, values, many)
            self.assertEqual({name: as_python(value) for name, value in found.items()},
                             plain.rounds(program.bodies, values, min(many, 10)))
        self.assertEqual(as_python(found["a"]), fractions.Fraction(1, 3) ** 128)
        self.assertEqual(rounds_of(read_program("x = ~"), {"x": 1}, 10 ** 999), {"x": 0})

    def test_too_many_rounds(self):
        # Degrees 1, 2, .. for x, though the value comes to rest at once.
        program = read_program("x = x")
        self.assertEqual(rounds_of(program, {"x": HALF}, 400), {"x": HALF})
        self.assertEqual(raised(TooMany, rounds_of, program, {"x": HALF}, 401).limit, 400)
        self.assertEqual(raised(TooMany, rounds_of, program, {"x": HALF}, 10 ** 999).limit, 400)
        # The degree of each procedure counts, also of one that nobody calls, and whatever the values are.
        program = read_program("x =\ny = [1: | 1: y]")
        self.assertEqual(as_python(rounds_of(program, {"x": 0, "y": 0}, 400)["y"]), 1 - fractions.Fraction(1, 2 ** 400))
        raised(TooMany, rounds_of, program, {"x": 1, "y": 1}, 401)

    def test_the_greatest_degrees(self):
        program = read_program("x = " + " ".join(["x"] * 19))
        self.assertEqual(plain.degrees(program.bodies, 2)["x"], 380)
        self.assertEqual(as_python(rounds_of(program, {"x": HALF}, 2)["x"]), fractions.Fraction(1, 2 ** 361))
        raised(TooMany, rounds_of, read_program("x = " + " ".join(["x"] * 20)), {"x": HALF}, 2)
        # Just 400 and just 401: 20 * (1 + 19) = 400, and one more call.
        nineteen = " ".join(["z"] * 19)
        for more, expected in (("", 400), (" z", 401), ("\nw = z", 400)):
            program = read_program("\n".join(sorted(
                f"x = {' '.join(['y'] * 20)}{more}\ny = {nineteen}\nz =".split("\n"))))
            self.assertEqual(max(plain.degrees(program.bodies, 5).values()), expected)
            for many in (2, 3, 10 ** 999):
                values = {name: HALF for name in program.names}
                if expected == 401:
                    raised(TooMany, rounds_of, program, values, many)
                    raised(TooMany, within, program, "x", many)
                    self.assertEqual(within(program, "y", many), 1)
                else:
                    rounds_of(program, values, many)
                    self.assertEqual(within(program, "x", many), 1 if many > 2 else 0)

    def test_degrees(self):
        refused = 0
        for _ in range(200):
            program = drawn_program(self.draw, most=3, depth=2)
            many = self.draw.randint(1, 6)
            if max(plain.degrees(program.bodies, many).values()) > 400:
                refused += 1
                raised(TooMany, rounds_of, program, {name: 0 for name in program.names}, many)
            else:
                self.assertEqual(set(rounds_of(program, {name: 1 for name in program.names}, many)), set(program.names))
        self.assertGreater(refused, 5)
        # A toss has the greatest degree of its branches, a repeat that of its body.
        program = read_program("x = [1: x | 1: [1: x | 1: {1/1: x}] | 1:]")
        self.assertEqual(plain.degrees(program.bodies, 9)["x"], 9)
        rounds_of(program, {"x": 1}, 400)
        raised(TooMany, rounds_of, program, {"x": 1}, 401)

    def test_errors(self):
        check_errors(rounds_of, (PAIRS, NO_PROGRAMS, InvalidProgram), ({"x": 1}, NO_VALUES_OF_X, InvalidValues),
                     (3, NO_NUMBERS, InvalidNumber))
        # The degree comes behind all of them.
        raised(InvalidValues, rounds_of, PAIRS, {"x": 2}, 10 ** 9)
        raised(InvalidProgram, rounds_of, PICKS, {"x": 2}, 10 ** 9)
        raised(TooMany, rounds_of, PAIRS, {"x": 1}, 10 ** 9)


class WithinTest(unittest.TestCase):
    def setUp(self):
        self.draw = random.Random(84)

    def test_it_is_what_rounds_from_0_give(self):
        for _ in range(200):
            program = drawn_program(self.draw, most=2, depth=2)
            name = self.draw.choice(program.names)
            depth = self.draw.randint(0, 4)
            if plain.degrees(program.bodies, depth)[name] > 400:
                self.assertEqual(raised(TooMany, within, program, name, depth).limit, 400)
                continue
            if max(plain.degrees(program.bodies, depth).values()) > 400:
                continue
            found = within(program, name, depth)
            self.assertIs(type(found), Fraction)
            expected = plain.rounds(program.bodies, {one: 0 for one in program.names}, depth)
            self.assertEqual(as_python(found), expected[name])
            self.assertEqual(found, rounds_of(program, {one: 0 for one in program.names}, depth)[name])

    def test_against_runs(self):
        compared = 0
        for _ in range(400):
            program = drawn_program(self.draw, most=2, depth=2)
            name = self.draw.choice(program.names)
            depth = self.draw.randint(0, 3)
            if "again" in str(program.bodies) or plain.degrees(program.bodies, depth)[name] > 12:
                continue
            compared += 1
            # So few calls leave no room for more than sixty steps.
            self.assertEqual(within(program, name, depth), ends_by(program, name, 60, depth))
        self.assertGreater(compared, 60)

    def test_great_depths(self):
        chain = read_program("x = y\ny = [1: | 1: z z]\nz = [1: | 2: ~]")
        self.assertEqual([str(within(chain, "x", depth)) for depth in range(5)], ["0", "0", "1/2", "5/9", "5/9"])
        self.assertEqual(str(within(chain, "x", 10 ** 999)), "5/9")
        # What others do, that are not reached, does not count.
        beside = chain.with_body("w", (("call", "w"), ("call", "w"), ("call", "x")))
        self.assertEqual(str(within(beside, "x", 10 ** 999)), "5/9")
        raised(TooMany, within, beside, "w", 10)
        half = fractions.Fraction(1, 2)
        self.assertEqual(as_python(within(read_program("x = [1: | 1: x]"), "x", 400)), 1 - half ** 400)
        raised(TooMany, within, read_program("x = [1: | 1: x]"), "x", 401)
        self.assertEqual(as_python(within(read_program("x = {1/1: x}"), "x", 400)), fractions.Fraction(400, 401))

    def test_only_the_degree_of_the_name_counts(self):
        # w calls nobody, and the degree of y is twice that of x.
        program = read_program("w =\nx = [1: | 1: x]\ny = [1: | 1: y] [1: | 1: y]")
        self.assertEqual(within(program, "w", 10 ** 999), 1)
        self.assertEqual(as_python(within(program, "x", 400)), 1 - fractions.Fraction(1, 2 ** 400))
        raised(TooMany, within, program, "y", 9)
        # x has just 1 + 399 at the depth 400, though the other one has 400 there.
        program = read_program("x = y\ny = [1: | 1: y]")
        within(program, "x", 400)
        raised(TooMany, within, program, "x", 401)
        # y has 2, 6, .., 254, 510 at 1, 2, .., 7, 8: at the depth 8 only x is asked for.
        program = read_program("x = y\ny = [1: | 1: y y]")
        self.assertEqual(plain.degrees(program.bodies, 8), {"x": 255, "y": 510})
        self.assertEqual(within(program, "x", 8), within(program, "y", 7))
        raised(TooMany, within, program, "y", 8)
        raised(TooMany, within, program, "x", 9)

    def test_they_rise(self):
        for program in (PAIRS, GROWS, TURNS, LEAKS):
            for name in program.names:
                found = [within(program, name, depth) for depth in range(6)]
                self.assertEqual(found[0], 0)
                for one, other in zip(found, found[1:]):
                    self.assertFalse(other.is_less(one))

    def test_errors(self):
        check_errors(within, (PAIRS, NO_PROGRAMS, InvalidProgram), ("x", NO_NAMES, UnknownName),
                     (3, NO_NUMBERS, InvalidNumber))
        raised(UnknownName, within, PAIRS, "y", 10 ** 9)
        raised(TooMany, within, PAIRS, "x", 10 ** 9)


if __name__ == "__main__":
    unittest.main()

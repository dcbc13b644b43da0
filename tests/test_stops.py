import itertools
import random
import unittest

import plain
from helpers import GROWS, LEAKS, PAIRS, PICKS, STRANGE, TURNS, drawn_program, drawn_small_program, is_integer, program_of, raised
from order import check_errors, strange_but
from surelyends.change.stops import is_stop, is_stop_paper, least_stops, meeting_sets, stop_paper, stopped
from surelyends.errors import InvalidOperation, InvalidProgram, UnknownName
from surelyends.numbers.fractions import Fraction
from surelyends.papers.verdicts import is_sure
from surelyends.programs.programs import Program
from surelyends.programs.texts import read_program
from test_means import NO_NAMES, NO_PROGRAMS

THREE = read_program("x = [1: y | 1: z]\ny = [1: | 2: y z]\nz = [1: | 2: x z]")


def tuples_of(names):
    """All ascending tuples of some of these names, those with fewer ones first, and then ascending."""
    return [some for many in range(len(names) + 1) for some in itertools.combinations(sorted(names), many)]


def plain_stopped(bodies, names):
    return {name: () if name in names else body for name, body in bodies.items()}


def plain_stops(bodies, name):
    others = [other for other in plain.reach(bodies, name) if other != name]
    return [some for some in tuples_of(others) if plain.is_sure(plain_stopped(bodies, some), name)]


def least(found):
    return tuple(some for some in found if not any(set(other) < set(some) for other in found))


def is_plain_stop_paper(bodies, name, value, stops=None):
    if not plain.is_told(value, "stop", 4) or value[1] not in (stops or least(plain_stops(bodies, name))) or type(value[3]) is not tuple:
        return False
    _, names, layers, others = value
    if not plain.is_sure_paper(plain_stopped(bodies, names), name, ("sure", layers)) or len(others) != len(names):
        return False
    return all(plain.is_unsure_paper(plain_stopped(bodies, set(names) - {other}), name, ("unsure", rows))
               for other, rows in zip(names, others))


def drawn_growing_program(draw):
    """Procedures of which many are unsure, each by others."""
    names = draw.sample("abcdef", draw.randint(2, 5))
    bodies = {}
    for name in names:
        calls = tuple(("call", draw.choice(names)) for _ in range(draw.randint(0, 2)))
        last = draw.choice(((), (), (("stay",),), (("call", name),) * 2))
        bodies[name] = (("toss", (draw.randint(1, 3), ()), (draw.randint(1, 5), calls), (draw.randint(1, 3), last)),)
    return Program.of(bodies)


class StopsTest(unittest.TestCase):
    def setUp(self):
        self.draw = random.Random(181)

    def check(self, program, name):
        bodies = program.bodies
        others = [other for other in plain.reach(bodies, name) if other != name]
        stops = plain_stops(bodies, name)
        for some in tuples_of(program.names):
            self.assertEqual(stopped(program, some).bodies, plain_stopped(bodies, some))
            self.assertIs(is_stop(program, name, some), some in stops, some)
        found = least_stops(program, name)
        self.assertEqual(found, least(stops))
        self.assertEqual(() in found, is_sure(program, name))
        meeting = least([some for some in tuples_of(others) if all(set(some) & set(stop) for stop in stops)])
        self.assertEqual(meeting_sets(program, name), meeting)
        for names in found:
            paper = stop_paper(program, name, names)
            self.assertEqual(paper[:2], ("stop", names))
            self.assertTrue(is_plain_stop_paper(bodies, name, paper), paper)
            self.assertIs(is_stop_paper(program, name, paper), True)
            fractions = [weight for layer in paper[2] for _, weight in layer] + [value for rows in paper[3] for _, value in rows]
            self.assertTrue(all(type(one) is Fraction for one in fractions))
        for names in set(tuples_of(program.names)) - set(found):
            raised(InvalidOperation, stop_paper, program, name, names)
        return found

    def test_drawn_programs(self):
        kinds = []
        for _ in range(60):
            for program in (drawn_growing_program(self.draw), drawn_small_program(self.draw), drawn_program(self.draw, most=2)):
                name = self.draw.choice(program.names)
                found = self.check(program, name)
                kinds.append("none" if not found else "sure" if found == ((),) else "one" if len(found) == 1 else "several")
        for kind, many in (("none", 15), ("sure", 15), ("one", 8), ("several", 1)):
            self.assertGreater(kinds.count(kind), many, kind)

    def test_known_stops(self):
        self.assertEqual(self.check(THREE, "x"), (("y",), ("z",)))
        self.assertEqual(self.check(THREE, "y"), (("x",), ("z",)))
        self.assertEqual(self.check(PAIRS, "x"), ((),))
        self.assertEqual(meeting_sets(PAIRS, "x"), ())
        self.assertEqual(self.check(GROWS, "x"), ())
        self.assertEqual(meeting_sets(GROWS, "x"), ((),))
        self.assertEqual(self.check(LEAKS, "x"), (("z",),))
        self.assertEqual(meeting_sets(LEAKS, "x"), (("z",),))
        self.assertEqual(self.check(LEAKS, "z"), ())
        self.assertEqual(self.check(TURNS, "y"), ((),))

    def test_fewer_names_first(self):
        # The run goes on only through a pair of b to e with a, and f ends it alone.
        program = program_of("\n".join([
            "a = [1: | 9: b c a a | 9: d e a a | 1: f]", "b = ~", "c =", "d = ~", "e = [1: ~ | 1: g]", "f = {1/1: g}", "g ="]))
        self.assertEqual(self.check(program, "a"), ())
        program = program_of("\n".join([
            "a = [2: | 1: b | 1: c]", "b = [1: d | 1: e]", "c = [1: | 1: f]", "d = ~", "e = [1: | 1: ~]", "f = g", "g = g"]))
        self.assertEqual(self.check(program, "a"), (
            ("b", "c"), ("b", "f"), ("b", "g"), ("c", "d", "e"), ("d", "e", "f"), ("d", "e", "g")))
        self.assertEqual(meeting_sets(program, "a"), (("b", "d"), ("b", "e"), ("c", "f", "g")))
        self.assertEqual(self.check(program, "b"), (("d", "e"),))
        self.assertEqual(meeting_sets(program, "b"), (("d",), ("e",)))
        self.assertEqual(self.check(program, "c"), (("f",), ("g",)))

    def test_eight_procedures(self):
        names = "abcdefgh"
        lines = []
        for at, name in enumerate(names):
            lines.append(f"{name} = [1: | 1: {' '.join(other for other in names if other not in (name, names[at - 1]))}]")
        program = read_program("\n".join(lines))
        # With five of them stopped, a and the other two make no more than two calls of one another each.
        self.assertEqual(least_stops(program, "a"), tuple(itertools.combinations("bcdefgh", 5)))
        self.assertEqual(meeting_sets(program, "a"), tuple(itertools.combinations("bcdefgh", 3)))
        self.assertEqual(least_stops(program, "a"), least(plain_stops(program.bodies, "a")))

    def test_names_that_are_no_stops(self):
        values = strange_but(lambda value: value in ((), ("y",))) + [
            ("x",), ("x", "y"), ("y", "y"), ("z", "y"), ["y"], ("y", "w"), ("y", "a"), {"y": 1}, "y", (("y",),), ("y", None), ("w",), ("y", 1)]
        program = program_of("x = y\ny = [1: | 2: y y]\nw =\na =")
        for value in values:
            self.assertIs(is_stop(program, "x", value), False, value)
            raised(InvalidOperation, stop_paper, program, "x", value)
        self.assertIs(is_stop(program, "x", ("y",)), True)
        self.assertIs(is_stop(program, "a", ()), True)
        self.assertIs(is_stop(program, "a", ("y",)), False)

    def test_errors(self):
        no_names = strange_but(lambda value: value == () or value == ("x",) or value == ("x", "y")) + [
            ("y", "x"), ("x", "x"), ["x"], ("z",), ("x", "z"), {"x": 1}, "x", ("x", None), ("x", ("y",))]
        check_errors(stopped, (TURNS, NO_PROGRAMS, InvalidProgram), (("x",), no_names, InvalidOperation))
        for call in (least_stops, meeting_sets, lambda program, name: is_stop(program, name, None),
                     lambda program, name: is_stop_paper(program, name, None)):
            check_errors(call, (TURNS, NO_PROGRAMS, InvalidProgram), ("x", NO_NAMES + ["z"], UnknownName))
        no_stops = strange_but(lambda value: value == ()) + [("y",), ("x",), ("x", "y"), ("z",)]
        check_errors(stop_paper, (TURNS, NO_PROGRAMS, InvalidProgram), ("x", NO_NAMES, UnknownName), ((), no_stops, InvalidOperation))
        raised(InvalidOperation, stop_paper, THREE, "x", ("y", "z"))
        raised(InvalidOperation, stop_paper, THREE, "x", ())
        raised(InvalidOperation, stop_paper, GROWS, "x", ())
        raised(InvalidProgram, stopped, PICKS, ("x",))
        self.assertEqual(stopped(TURNS, ()), TURNS)
        self.assertEqual(stopped(TURNS, ("x", "y")), read_program("x =\ny ="))


class StopPaperTest(unittest.TestCase):
    def setUp(self):
        self.draw = random.Random(182)

    def test_bent_papers(self):
        accepted = refused = 0
        others = (("stop", (), (), ()), (), ("y",), (("x", Fraction(1, 2)),), None, 1)
        programs = [THREE, LEAKS, PAIRS] + [drawn_growing_program(self.draw) for _ in range(15)]
        for program in programs:
            for name in program.names[:2]:
                for names in least_stops(program, name)[:2]:
                    paper = stop_paper(program, name, names)
                    stops = least(plain_stops(program.bodies, name))
                    for bent in plain.bent(paper, others):
                        expected = is_plain_stop_paper(program.bodies, name, bent, stops)
                        self.assertIs(is_stop_paper(program, name, bent), expected, bent)
                        accepted += expected
                        refused += not expected
        self.assertGreater(accepted, 100)
        self.assertGreater(refused, 5000)

    def test_each_part(self):
        layers, half = ((("y", 1),), (("x", 1), ("z", 2))), Fraction(1, 2)
        rows = (("x", half), ("y", half), ("z", half))
        for paper, expected in (
                (("stop", ("y",), layers, (rows,)), True), (("stop", ("z",), layers, (rows,)), False), (("stop", ("y",), layers, ()), False),
                (("stop", ("y",), layers, (rows, rows)), False), (("stop", ("y", "z"), layers, (rows, rows)), False), (("stop", (), layers, ()), False),
                (("stop", ("y",), layers[:1], (rows,)), False), (("stop", ("y",), layers, (rows[:2],)), False), (("stop", ("y",), layers, [rows]), False),
                (("stop", ("y",), layers, (("unsure", rows),)), False), (("stop", ("y",), ("sure", layers), (rows,)), False), (("stop", ["y"], layers, (rows,)), False),
                (("stop", ("y",), (((("x", 1), ("y", 1), ("z", 2))),), (rows,)), False),
                (("stop", ("y",), ((("y", 5),), (("x", 3), ("z", 6))), (rows,)), True), (("stop", ("y",), layers, (rows,), ()), False),
                (("stop", ("y",), layers), False), (("sure", ("y",), layers, (rows,)), False), (("stop", "y", layers, (rows,)), False),
                (("stop", ("y",), layers, ((("x", 1), ("y", half), ("z", half)),)), False), (("stop", ("y",), layers, ((("x", half), ("y", 1), ("z", half)),)), False),
        ):
            self.assertIs(is_stop_paper(THREE, "x", paper), expected, paper)
            self.assertIs(is_plain_stop_paper(THREE.bodies, "x", paper), expected, paper)
        # Without its other name each of the names leaves another program.
        program = read_program("a = [1: | 1: b c]\nb = [9: | 1: ~]\nc = [9: d | 1: ~]\nd =")
        first = (("a", Fraction(19, 20)), ("b", Fraction(9, 10)), ("c", 1))
        second = (("a", Fraction(19, 20)), ("b", 1), ("c", Fraction(9, 10)), ("d", 1))
        for others, expected in (((first, second), True), ((second, first), False), ((first, first), False), ((second,), False), ((first, second, second), False)):
            paper = ("stop", ("b", "c"), ((("b", 1),), (("c", 1),), (("a", 9),)), others)
            self.assertIs(is_stop_paper(program, "a", paper), expected)
            self.assertIs(is_plain_stop_paper(program.bodies, "a", paper), expected)

    def test_any_value(self):
        for program in (THREE, TURNS, PAIRS, GROWS):
            for value in STRANGE + (("stop", (), ((("x", 1),),), ()), ("stop", (), (), ()), ("stop", None, None, None), ("stop", ("y",), (), ()), ("stop",)):
                self.assertIs(is_stop_paper(program, "x", value), is_plain_stop_paper(program.bodies, "x", value))
                self.assertIs(is_stop(program, "x", value), type(value) is tuple and all(type(one) is str for one in value)
                              and value in plain_stops(program.bodies, "x"))
        self.assertFalse(is_integer(True))


if __name__ == "__main__":
    unittest.main()

import fractions
import random
import unittest

from helpers import (
    GROWS,
    LEAKS,
    PAIRS,
    PICKS,
    STRANGE,
    TURNS,
    PlainRun,
    as_own,
    as_python,
    drawn_program,
    is_integer,
    plain_runs,
    raised,
)
from surelyends.errors import InvalidNumber, InvalidOperation, InvalidProgram, TooMany, UnknownName
from surelyends.numbers.fractions import Fraction
from surelyends.programs.programs import Program
from surelyends.programs.texts import read_program
from surelyends.runs.runs import MOST_PICKS, MOST_STEPS, chance_of, ended_runs, ends_after, ends_by, is_run

NOT_INTEGERS = [value for value in STRANGE if not is_integer(value)]
TWO, THREE, FOUR = "[1: | 1:]", "[1: | 1: | 1:]", "[1: | 1: | 1: | 1:]"
# 1 + (1 + 2) + (1 + 3 * (1 + 2 * (1 + 3 * (1 + 4 * (1 + 4 * (1 + 4 * (1 + 3)))))))
PICKS_5000 = f"x = [1: y | 1: z]\ny = {TWO}\nz = {THREE} {TWO} {THREE} {FOUR} {FOUR} {FOUR} {THREE}"
# 1 + 1 + (1 + 3 * (1 + 3 * (1 + 2 * (1 + 4 * (1 + 4 * (1 + 4 * (1 + 3)))))))
PICKS_5001 = f"x = [1: | 1: z]\nz = {THREE} {THREE} {TWO} {FOUR} {FOUR} {FOUR} {THREE}"


class EndedRunsTest(unittest.TestCase):
    def setUp(self):
        self.draw = random.Random(71)

    def test_constants(self):
        self.assertEqual((MOST_STEPS, MOST_PICKS), (12, 5000))

    def test_against_a_search(self):
        refused = 0
        for _ in range(250):
            program = drawn_program(self.draw)
            name = self.draw.choice(program.names)
            steps = self.draw.choice((0, 1, 2, 3, 4, 5, 6, 7, 8))
            runs, many = plain_runs(program.bodies, name, steps)
            if many > 5000:
                refused += 1
                self.assertEqual(raised(TooMany, list, ended_runs(program, name, steps)).limit, 5000)
                continue
            found = list(ended_runs(program, name, steps))
            self.assertEqual(found, [run.told() for run in runs])
            for told in found:
                self.assertEqual([type(part) for part in told], [tuple, int, int, tuple])
                self.assertIs(is_run(program, name, told), True)
            self.assertEqual([told[0] for told in found], sorted(told[0] for told in found))

    def test_most_steps(self):
        for program, name in ((PAIRS, "x"), (GROWS, "x"), (TURNS, "x"), (TURNS, "y"), (LEAKS, "x"), (LEAKS, "z")):
            for steps in range(13):
                runs, _ = plain_runs(program.bodies, name, steps)
                self.assertEqual(list(ended_runs(program, name, steps)), [run.told() for run in runs])
        self.assertEqual(list(ended_runs(read_program("x ="), "x", 0)), [((), 0, 1, ())])
        self.assertEqual(list(ended_runs(read_program("x = y\ny ="), "x", 1)), [((), 1, 2, ())])
        self.assertEqual(list(ended_runs(read_program("x = y\ny ="), "x", 0)), [])
        self.assertEqual(list(ended_runs(read_program("x = ~"), "x", 12)), [])
        self.assertEqual(list(ended_runs(read_program("x = x"), "x", 12)), [])

    def test_too_many(self):
        program = read_program(PICKS_5000)
        runs, many = plain_runs(program.bodies, "x", 12)
        self.assertEqual(many, 5000)
        self.assertEqual(list(ended_runs(program, "x", 12)), [run.told() for run in runs])
        program = read_program(PICKS_5001)
        self.assertEqual(plain_runs(program.bodies, "x", 12)[1], 5001)
        runs = ended_runs(program, "x", 12)
        self.assertEqual(raised(TooMany, next, runs).limit, 5000)
        # Fewer steps leave fewer tuples; the last picks are made with the ninth step.
        raised(TooMany, next, ended_runs(program, "x", 9))
        self.assertEqual(len(list(ended_runs(program, "x", 8))), 1)
        # Tuples of runs that do not end count, too.
        program = read_program(PICKS_5001 + " ~")
        raised(TooMany, next, ended_runs(program, "x", 12))
        raised(TooMany, next, ended_runs(read_program(f"x = {FOUR} {FOUR} x"), "x", 12))

    def test_errors_come_with_the_first_result(self):
        for value in STRANGE:
            if not isinstance(value, Program):
                raised(InvalidProgram, next, ended_runs(value, "x", 3))
                raised(InvalidProgram, next, ended_runs(value, None, None))
            if value != "x":
                self.assertIs(raised(UnknownName, next, ended_runs(PAIRS, value, 3)).name, value)
                self.assertIs(raised(UnknownName, next, ended_runs(PAIRS, value, -1)).name, value)
            if not is_integer(value) or not 0 <= value <= 12:
                self.assertIs(raised(InvalidNumber, next, ended_runs(PAIRS, "x", value)).value, value)
        raised(InvalidProgram, next, ended_runs(PICKS, "x", 3))
        raised(InvalidProgram, next, ended_runs(PICKS, "z", -3))
        self.assertEqual(raised(InvalidNumber, next, ended_runs(PAIRS, "x", 13)).value, 13)
        # The number is wrong ahead of too many picks.
        raised(InvalidNumber, next, ended_runs(read_program(PICKS_5001), "x", 13))

    def test_it_is_a_generator(self):
        runs = ended_runs(PAIRS, "x", 12)
        self.assertIs(iter(runs), runs)
        self.assertEqual(next(runs), ((0,), 1, 1, ()))
        self.assertEqual(next(runs), ((1, 0, 0), 6, 2, ("a",)))
        self.assertEqual(len(list(runs)), 2)


class IsRunTest(unittest.TestCase):
    def setUp(self):
        self.draw = random.Random(73)

    def drawn_run(self, program, name, most):
        run = PlainRun(program.bodies, name)
        while run.left is not None and run.steps < most:
            if run.weights:
                run.pick(self.draw.randrange(len(run.weights)))
            else:
                run.step()
        return run

    def bent(self, told):
        picks, steps, deepest, notes = told
        yield picks + (0,), steps, deepest, notes
        yield picks[:-1] if picks else (1,), steps, deepest, notes
        yield (0,) + picks, steps, deepest, notes
        for at in range(min(len(picks), 6)):
            for other in (1 - picks[at], -picks[at] - 1, picks[at] + 4, None, str(picks[at]), Fraction(picks[at]),
                          (picks[at],), bool(picks[at]), picks[at] + 10 ** 999):
                yield picks[:at] + (other,) + picks[at + 1:], steps, deepest, notes
        for other in (steps + 1, steps - 1, -steps - 1, None, str(steps), Fraction(steps), (steps,), bool(steps)):
            yield picks, other, deepest, notes
        for other in (deepest + 1, deepest - 1, -deepest, None, Fraction(deepest), (deepest,), bool(deepest)):
            yield picks, steps, other, notes
        yield picks, steps, deepest, notes + ("a",)
        yield picks, steps, deepest, notes[:-1] if notes else ("b",)
        yield picks, steps, deepest, list(notes)
        yield picks, steps, deepest, "".join(notes)
        yield picks, steps, deepest, tuple((note,) for note in notes) or ((),)
        yield list(picks), steps, deepest, notes
        yield list(told)
        yield told + (1,)
        yield told[:3]
        yield picks
        yield ()

    def test_bent_runs(self):
        ended = 0
        for _ in range(150):
            program = drawn_program(self.draw)
            name = self.draw.choice(program.names)
            run = self.drawn_run(program, name, 60)
            told = run.told()
            self.assertIs(is_run(program, name, told), run.left is None)
            if run.left is None:
                ended += 1
                for bent in self.bent(told):
                    if not (isinstance(bent, tuple) and len(bent) == 4 and self.is_told_again(program, name, bent)):
                        self.assertIs(is_run(program, name, bent), False, (told, bent))
        self.assertGreater(ended, 60)

    def is_told_again(self, program, name, bent):
        """Whether the bent picks happen to be those of another run with the same values."""
        picks = bent[0]
        if type(picks) is not tuple or not all(type(number) is int for number in picks + bent[1:3]):
            return False
        run = PlainRun(program.bodies, name)
        for number in picks:
            while run.left is not None and not run.weights and run.steps < 100:
                if run.left == ("stay",):
                    return False
                run.step()
            if not 0 <= number < len(run.weights):
                return False
            run.pick(number)
        while run.left is not None and not run.weights and run.steps < 100:
            run.step()
        return run.left is None and run.told() == bent

    def test_any_value(self):
        for value in STRANGE:
            expected = value == ((0,), 1, 1, ())
            self.assertIs(is_run(PAIRS, "x", value), expected)
            self.assertIs(is_run(LEAKS, "z", value), expected)
            if not isinstance(value, Program):
                raised(InvalidProgram, is_run, value, "x", ())
            if value != "x":
                self.assertIs(raised(UnknownName, is_run, PAIRS, value, ()).name, value)
        raised(InvalidProgram, is_run, PICKS, "z", ())

    def test_long_runs(self):
        program = read_program("x = {1/1: !a}")
        many = 4999
        told = ((1,) * many + (0,), 2 * many + 1, 1, ("a",) * many)
        self.assertIs(is_run(program, "x", told), True)
        self.assertIs(is_run(program, "x", ((1,) * many + (0,), 2 * many + 1, 2, ("a",) * many)), False)
        for many, expected in ((9999, True), (10000, False)):
            told = ((1,) * many + (0,), many + 1, 1, ())
            self.assertIs(is_run(read_program("x = {1/1:}"), "x", told), expected)
        # The last steps are no picks here.
        program = read_program("x = {1/1:} !a")
        for many, expected in ((9998, True), (9999, False), (10000, False)):
            self.assertIs(is_run(program, "x", ((1,) * many + (0,), many + 2, 1, ("a",))), expected)
        # And here a thousand calls and more are open at the end.
        program = read_program("x = [1: !e | 1: x y]\ny = z\nz =")
        for many, expected in ((2499, True), (2500, False)):
            told = ((1,) * many + (0,), 4 * many + 2, max(many + 1, many + 2), ("e",))
            self.assertIs(is_run(program, "x", told), expected)

    def test_runs_without_an_end(self):
        for text in ("x = x", "x = ~", "x = !a x", "x = {1/1: !a} ~"):
            program = read_program(text)
            for told in (((), 0, 1, ()), ((), 10000, 10001, ()), ((0,), 1, 1, ()), ((0,), 10001, 1, ())):
                self.assertIs(is_run(program, "x", told), False)


class ChanceOfTest(unittest.TestCase):
    def test_against_runs(self):
        draw = random.Random(79)
        for _ in range(200):
            program = drawn_program(draw)
            name = draw.choice(program.names)
            run = PlainRun(program.bodies, name)
            while run.left is not None and run.left != ("stay",) and run.steps < 60:
                if not run.weights:
                    run.step()
                    continue
                number = draw.randrange(len(run.weights))
                chances = [chance_of(program, name, run.picks + (other,)) for other in range(len(run.weights))]
                self.assertEqual(sum(map(as_python, chances)), run.chance)
                for other in (len(run.weights), -1, None, True, False, "0", Fraction(0), (0,), 10 ** 999):
                    raised(InvalidOperation, chance_of, program, name, run.picks + (other,))
                    raised(InvalidOperation, chance_of, program, name, run.picks + (other, 0))
                run.pick(number)
                found = chance_of(program, name, run.picks)
                self.assertIs(type(found), Fraction)
                self.assertEqual(found, as_own(run.chance))
            if run.left is None or run.left == ("stay",):
                self.assertEqual(chance_of(program, name, run.picks), as_own(run.chance))
                for other in (0, 1, None):
                    raised(InvalidOperation, chance_of, program, name, run.picks + (other,))

    def test_too_many_steps_ahead_of_a_pick(self):
        program = read_program("x = [1: | 2: y]\ny = !a y")
        self.assertEqual(chance_of(program, "x", ()), 1)
        self.assertEqual(chance_of(program, "x", (1,)), Fraction(2, 3))
        self.assertEqual(raised(TooMany, chance_of, program, "x", (1, 0)).limit, 10000)
        self.assertEqual(raised(TooMany, chance_of, program, "x", (1, None)).limit, 10000)
        raised(InvalidOperation, chance_of, program, "x", (2, 0))
        raised(InvalidOperation, chance_of, program, "x", (0, 0))
        self.assertEqual(chance_of(program, "y", ()), 1)
        raised(TooMany, chance_of, program, "y", (0,))
        # Steps that lie ahead of several picks do not add up.
        lines = "b = {0}\nc = {1}\nx = {2} {{1/1: {2}}}"
        text = lines.format(" ".join(["!e"] * 24), " ".join(["b"] * 20), " ".join(["c"] * 3))
        program = read_program(text)
        self.assertEqual(chance_of(program, "x", (1,) * 20 + (0,)), Fraction(1, 2 ** 21))

    def test_the_most_steps(self):
        for most, expected in ((10000, True), (10001, False)):
            bodies = {"a": (("note", "e"),) * 9, "b": (("call", "a"),) * 10, "c": (("call", "b"),) * 9,
                      "d": (("call", "c"),) * 10}
            steps = {"a": 9, "b": 100, "c": 909, "d": 9100}
            rest = most - steps["d"] - 1
            x = [("call", "d")]
            for name in ("b", "a", "e"):
                part = steps.get(name, 0) + 1
                while rest >= part:
                    x.append(("note", "e") if name == "e" else ("call", name))
                    rest -= part
            bodies["x"] = tuple(x) + (("again", 1, 2, ()),)
            program = Program.of(bodies)
            if expected:
                self.assertEqual(chance_of(program, "x", (1, 0)), Fraction(2, 9))
            else:
                self.assertEqual(raised(TooMany, chance_of, program, "x", (1, 0)).limit, 10000)
            self.assertEqual(chance_of(program, "x", ()), 1)

    def test_wrong_arguments(self):
        for value in STRANGE:
            if not isinstance(value, Program):
                raised(InvalidProgram, chance_of, value, "x", ())
                raised(InvalidProgram, chance_of, value, None, None)
            if value != "x":
                self.assertIs(raised(UnknownName, chance_of, PAIRS, value, None).name, value)
            if not isinstance(value, tuple):
                raised(InvalidOperation, chance_of, PAIRS, "x", value)
            if not is_integer(value) or value not in (0, 1):
                raised(InvalidOperation, chance_of, PAIRS, "x", (value,))
        raised(InvalidProgram, chance_of, PICKS, "x", ())

    def test_long_picks(self):
        self.assertEqual(chance_of(read_program("x = {1/3:}"), "x", (1,) * 3000 + (0,)),
                         Fraction(3 ** 3000, 4 ** 3001))


def trees(inner, depth):
    """How many trees with so many inner knots, each with two parts, are at most so deep."""
    counts = [1] + [0] * inner
    for _ in range(depth - 1):
        counts = [1] + [sum(counts[at] * counts[many - 1 - at] for at in range(many)) for many in range(1, inner + 1)]
    return counts[inner] if depth else 0


def spread_out(bodies, name, steps, depth):
    """The chances of all things still to be done behind each step, counted for all runs together."""
    states = {(("close",), *reversed(bodies[name])): fractions.Fraction(1)} if depth else {}
    ended = []
    for _ in range(steps + 1):
        further = {}
        now = fractions.Fraction(0)
        for state, chance in states.items():
            todo = list(state)
            while todo and todo[-1] == ("close",):
                todo.pop()
            if not todo:
                now += chance
                continue
            statement = todo.pop()
            for share, more in ways(bodies, statement):
                if todo.count(("close",)) + more.count(("close",)) <= depth:
                    key = tuple(todo + more)
                    further[key] = further.get(key, 0) + chance * share
        ended.append(now)
        states = further
    return ended


def ways(bodies, statement):
    word = statement[0]
    if word == "note":
        return [(1, [])]
    if word == "stay":
        return [(1, [statement])]
    if word == "call":
        return [(1, [("close",), *reversed(bodies[statement[1]])])]
    if word == "again":
        whole = statement[1] + statement[2]
        return [(fractions.Fraction(statement[1], whole), []),
                (fractions.Fraction(statement[2], whole), [statement, *reversed(statement[3])])]
    whole = sum(weight for weight, _ in statement[1:])
    return [(fractions.Fraction(weight, whole), list(reversed(body))) for weight, body in statement[1:]]


class EndsTest(unittest.TestCase):
    def setUp(self):
        self.draw = random.Random(83)

    def test_sums_of_the_chances_of_runs(self):
        for _ in range(120):
            program = drawn_program(self.draw)
            name = self.draw.choice(program.names)
            steps = self.draw.choice((0, 1, 2, 3, 4, 5, 6, 7))
            runs, many = plain_runs(program.bodies, name, steps)
            found = ends_after(program, name, steps)
            self.assertIs(type(found), tuple)
            expected = [sum(run.chance for run in runs if run.steps == at) for at in range(steps + 1)]
            self.assertEqual(list(map(as_python, found)), expected)
            for one in found:
                self.assertIs(type(one), Fraction)
            for depth in (0, 1, 2, 3, 4, steps, steps + 1, 60):
                chance = ends_by(program, name, steps, depth)
                self.assertIs(type(chance), Fraction)
                self.assertEqual(as_python(chance), sum(run.chance for run in runs if run.deepest <= depth))
            if many <= 5000:
                self.assertEqual(sum(map(as_python, found)), sum(
                    as_python(chance_of(program, name, told[0])) for told in ended_runs(program, name, steps)))

    def test_sixty_steps_counted_by_trees(self):
        for program, start, grow in ((PAIRS, fractions.Fraction(1, 2), 5), (GROWS, fractions.Fraction(1, 3), 4)):
            expected = [self.tree_chance(start, grow, steps, 60) for steps in range(61)]
            self.assertEqual(list(map(as_python, ends_after(program, "x", 60))), expected)
            for depth in (0, 1, 2, 3, 4, 5, 7, 10, 15, 60):
                for steps in (0, 1, 10, 33, 60):
                    self.assertEqual(as_python(ends_by(program, "x", steps, depth)),
                                     sum(self.tree_chance(start, grow, at, depth) for at in range(steps + 1)))

    def tree_chance(self, start, grow, steps, depth):
        inner, rest = divmod(steps - 1, grow)
        if steps < 1 or rest:
            return 0
        return start ** (inner + 1) * (1 - start) ** inner * trees(inner, depth)

    def test_sixty_steps_counted_by_what_is_still_to_do(self):
        # What is still to do behind calls that stand side by side takes too many forms for sixty steps.
        told = (("x = {1/2: !a} [1: | 3: x]", 60), ("x = [1: y | 2: | 3: ~]\ny = {2/1: !a !b} x", 60),
                ("x = {1/1: {2/1: y}}\ny = !a", 60), ("x = y y y\ny = [5: | 1: x | 1: !a]", 25), ("x =", 60),
                ("x = x", 60), ("x = ~", 60), ("x = !a !a z\nz =", 60), ("x = [1: | 1: {1/1:}] {1/1: x !a}", 60))
        for text, steps in told:
            program = read_program(text)
            for depth in (1, 2, 5, steps + 1):
                expected = spread_out(program.bodies, "x", steps, depth)
                self.assertEqual(as_python(ends_by(program, "x", steps, min(depth, 60))), sum(expected))
            self.assertEqual(list(map(as_python, ends_after(program, "x", steps))), expected)

    def test_large_programs(self):
        for _ in range(4):
            program = drawn_program(self.draw, most=4)
            name = program.names[0]
            after = ends_after(program, name, 60)
            self.assertEqual(len(after), 61)
            self.assertEqual(after[:21], ends_after(program, name, 20))
            self.assertEqual(as_python(ends_by(program, name, 60, 60)), sum(map(as_python, after)))
            self.assertLessEqual(sum(map(as_python, after)), 1)

    def test_wrong_arguments(self):
        for value in STRANGE:
            if not isinstance(value, Program):
                raised(InvalidProgram, ends_after, value, "x", 1)
                raised(InvalidProgram, ends_after, value, None, None)
                raised(InvalidProgram, ends_by, value, "x", 1, 1)
                raised(InvalidProgram, ends_by, value, None, None, None)
            if value != "x":
                self.assertIs(raised(UnknownName, ends_after, PAIRS, value, -1).name, value)
                self.assertIs(raised(UnknownName, ends_by, PAIRS, value, -1, -1).name, value)
        for value in NOT_INTEGERS + [-1, 61, 10 ** 999]:
            self.assertIs(raised(InvalidNumber, ends_after, PAIRS, "x", value).value, value)
            self.assertIs(raised(InvalidNumber, ends_by, PAIRS, "x", value, -2).value, value)
            self.assertIs(raised(InvalidNumber, ends_by, PAIRS, "x", 60, value).value, value)
        raised(InvalidProgram, ends_after, PICKS, "x", 1)
        raised(InvalidProgram, ends_by, PICKS, "x", 1, 1)
        self.assertEqual((ends_after(PAIRS, "x", 0), ends_by(PAIRS, "x", 60, 0)), ((0,), 0))


if __name__ == "__main__":
    unittest.main()

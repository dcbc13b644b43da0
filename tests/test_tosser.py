import gc
import random
import unittest

from helpers import GROWS, LEAKS, PAIRS, PICKS, STRANGE, TURNS, PlainRun, as_own, drawn_program, is_integer, raised
from surelyends.errors import (
    InvalidNumber,
    InvalidOperation,
    InvalidProgram,
    NothingToUndo,
    TooMany,
    UnknownName,
)
from surelyends.numbers.fractions import Fraction
from surelyends.programs.programs import Program
from surelyends.programs.texts import read_program
from surelyends.runs.tosser import MAX_STEPS, Tosser

NOT_COUNTS = [value for value in STRANGE if not is_integer(value) or value < 0]


class TosserTest(unittest.TestCase):
    def setUp(self):
        self.draw = random.Random(61)

    def assert_like(self, tosser, run, program, name):
        self.assertIs(tosser.program, program)
        self.assertEqual(tosser.procedure, name)
        self.assertEqual((tosser.picks, tosser.notes), (run.picks, run.notes))
        self.assertEqual((tosser.steps, tosser.depth, tosser.deepest), (run.steps, run.depth, run.deepest))
        self.assertIs(type(tosser.chance), Fraction)
        self.assertEqual(tosser.chance, as_own(run.chance))
        self.assertIs(tosser.has_ended, run.left is None)
        self.assertEqual(tosser.left, run.left)
        self.assertEqual(tosser.waits, len(run.weights))
        self.assertEqual(str(tosser), f"tosser of {name}: {run.steps} steps, depth {run.depth}")

    def made(self, program, name, picks, steps):
        tosser = Tosser(program, name)
        picks = list(picks)
        for _ in range(steps):
            if tosser.waits:
                tosser.pick(picks.pop(0))
            else:
                tosser.step()
        return tosser

    def refused(self, tosser, run):
        """Each step that cannot be made, with its error; then the tosser is as before."""
        before = (tosser.picks, tosser.steps, tosser.left, tosser.depth)
        if run.left is None or run.weights:
            raised(InvalidOperation, tosser.step)
        if not run.weights:
            for value in (0, 1, -1, None, True):
                raised(InvalidOperation, tosser.pick, value)
        else:
            many = len(run.weights)
            for value in (many, -1, 10 ** 999, True, False, None, "0", (0,), Fraction(0), Fraction(1)):
                self.assertIs(raised(InvalidNumber, tosser.pick, value).value, value)
        self.assertEqual((tosser.picks, tosser.steps, tosser.left, tosser.depth), before)

    def test_step_by_step(self):
        for _ in range(150):
            program = drawn_program(self.draw)
            name = self.draw.choice(program.names)
            tosser, run = Tosser(program, name), PlainRun(program.bodies, name)
            behind = [run.copy()]
            for _ in range(40):
                self.assert_like(tosser, run, program, name)
                self.refused(tosser, run)
                if run.left is None or self.draw.random() < 0.15:
                    many = self.draw.randint(0, len(behind) - 1)
                    self.assertIs(raised(NothingToUndo, tosser.back, many=len(behind)).many, len(behind))
                    self.assertEqual(tosser.back(many=many), len(behind) - 1 - many)
                    behind = behind[:len(behind) - many]
                    run = behind[-1].copy()
                    continue
                run = run.copy()
                if run.weights:
                    number = self.draw.randrange(len(run.weights))
                    run.pick(number)
                    self.assertEqual(tosser.pick(number), run.steps)
                else:
                    run.step()
                    self.assertEqual(tosser.step(), run.steps)
                behind.append(run.copy())

    def test_wrong_starts(self):
        for value in STRANGE:
            if not isinstance(value, Program):
                raised(InvalidProgram, Tosser, value, "x")
                raised(InvalidProgram, Tosser, value, None)
            if value != "x":
                self.assertIs(raised(UnknownName, Tosser, PAIRS, value).name, value)
        raised(InvalidProgram, Tosser, PICKS, "x")
        raised(InvalidProgram, Tosser, PICKS, "z")

    def test_properties_cannot_be_set(self):
        tosser = Tosser(PAIRS, "x")
        for name in ("program", "procedure", "picks", "notes", "steps", "depth", "deepest", "chance", "has_ended",
                     "left", "waits"):
            with self.assertRaises(AttributeError):
                setattr(tosser, name, 1)
        raised(TypeError, iter, tosser)

    def test_empty_procedures(self):
        tosser = Tosser(read_program("x ="), "x")
        self.assertEqual((tosser.has_ended, tosser.steps, tosser.depth, tosser.deepest, tosser.left, tosser.waits),
                         (True, 0, 0, 1, None, 0))
        self.assertEqual(tosser.go(), 0)
        self.assertEqual(tosser.chance, 1)
        raised(InvalidOperation, tosser.step)
        raised(InvalidOperation, tosser.go, 0)

    def test_calls(self):
        tosser = Tosser(read_program("x = y\ny = z z\nz ="), "x")
        self.assertEqual(tosser.left, ("call", "y"))
        self.assertEqual((tosser.step(), tosser.depth, tosser.deepest, tosser.left), (1, 2, 2, ("call", "z")))
        self.assertEqual((tosser.step(), tosser.depth, tosser.deepest, tosser.left), (2, 2, 3, ("call", "z")))
        self.assertEqual((tosser.step(), tosser.depth, tosser.deepest, tosser.left), (3, 0, 3, None))
        # A call that stands last is open beside the one that made it.
        tosser = Tosser(read_program("x = !a x"), "x")
        for at in range(1, 50):
            self.assertEqual((tosser.step(), tosser.step()), (2 * at - 1, 2 * at))
            self.assertEqual((tosser.depth, tosser.deepest), (at + 1, at + 1))

    def test_repeats(self):
        tosser = Tosser(read_program("x = {3/1:} {1/2: !a {1/1: x}} !b"), "x")
        self.assertEqual((tosser.waits, tosser.left), (2, ("again", 3, 1, ())))
        self.assertEqual([tosser.pick(1) for _ in range(3)], [1, 2, 3])
        self.assertEqual((str(tosser.chance), tosser.pick(0), str(tosser.chance)), ("1/64", 4, "3/256"))
        self.assertEqual((tosser.go(1, 0, 1), tosser.notes, tosser.left[:3]), (9, ("a", "a"), ("again", 1, 1)))
        self.assertEqual(tosser.go(0, 0), 12)
        self.assertEqual((tosser.notes, tosser.has_ended), (("a", "a", "b"), True))
        self.assertEqual(tosser.picks, (1, 1, 1, 0, 1, 0, 1, 0, 0))
        self.assertEqual(tosser.go(), 12)

    def test_stay(self):
        tosser = Tosser(LEAKS, "z")
        self.assertEqual((tosser.go(1), tosser.left, tosser.waits, tosser.depth), (1, ("stay",), 0, 1))
        self.assertEqual([tosser.step() for _ in range(5)], [2, 3, 4, 5, 6])
        self.assertEqual((tosser.left, tosser.has_ended, tosser.notes, tosser.go()), (("stay",), False, (), 6))
        raised(InvalidOperation, tosser.go, 0)
        raised(InvalidOperation, tosser.pick, 0)
        self.assertEqual((tosser.back(many=6), tosser.waits), (0, 2))

    def test_go(self):
        for _ in range(150):
            program = drawn_program(self.draw)
            name = self.draw.choice(program.names)
            picks = tuple(self.draw.choice((0, 0, 1, 1, 2, 3)) for _ in range(self.draw.randint(0, 6)))
            run = PlainRun(program.bodies, name)
            for call in (lambda tosser: tosser.go(*picks), lambda tosser: tosser.go_all(picks)):
                tosser = Tosser(program, name)
                expected, run = self.gone(program, name, picks)
                if expected is None:
                    self.assertEqual(call(tosser), run.steps)
                    self.assert_like(tosser, run, program, name)
                    self.assertTrue(tosser == self.made(program, name, run.picks, run.steps))
                else:
                    error, value = expected
                    found = raised(error, call, tosser)
                    if error is InvalidNumber:
                        self.assertEqual(found.value, value)
                    elif error is TooMany:
                        self.assertEqual(found.limit, value)
                    self.assertEqual((tosser.steps, tosser.picks), (0, ()))

    def gone(self, program, name, picks):
        run = PlainRun(program.bodies, name)
        picks = list(picks)
        many = 0
        while True:
            if run.left is None or run.left == ("stay",):
                return ((InvalidOperation, None), run) if picks else (None, run)
            if run.weights:
                if not picks:
                    return None, run
                if picks[0] >= len(run.weights):
                    return (InvalidNumber, picks[0]), run
                run.pick(picks.pop(0))
                many = 0
            elif many == 10000:
                return (TooMany, 10000), run
            else:
                run.step()
                many += 1

    def test_go_with_wrong_picks(self):
        tosser = Tosser(TURNS, "x")
        tosser.go(1)
        for value in STRANGE:
            if not isinstance(value, tuple):
                raised(InvalidOperation, tosser.go_all, value)
            if value not in (0, 1) or not is_integer(value):
                self.assertIs(raised(InvalidNumber, tosser.go, value).value, value)
                self.assertIs(raised(InvalidNumber, tosser.go_all, (0, value, 0)).value, value)
                self.assertIs(raised(InvalidNumber, tosser.go, 0, value, None).value, value)
        self.assertEqual((tosser.steps, tosser.picks), (2, (1,)))
        # The run ends ahead of the last pick.
        raised(InvalidOperation, tosser.go, 0, 0, 0)
        raised(InvalidOperation, tosser.go, 0, 0, None)
        self.assertEqual(tosser.go_all((0, 0)), 7)
        self.assertIs(tosser.has_ended, True)

    def long_program(self, calls):
        """A procedure that makes just so many steps, calls and notes, ahead of a toss."""
        ten = " ".join(["!e"] * 9)
        lines = {"a": ten, "b": " ".join(["a"] * 10), "c": " ".join(["b"] * 10), "d": " ".join(["c"] * 9)}
        steps = {"a": 9, "b": 100, "c": 1010, "d": 9099}
        rest = calls - 9100
        self.assertEqual(steps["d"], 9 * (1 + steps["c"]))
        words = ["d"]
        for name in ("b", "a", "e"):
            size = steps.get(name, 0) + 1
            while rest >= size:
                words.append("!e" if name == "e" else name)
                rest -= size
        lines["x"] = " ".join(words)
        self.assertLessEqual(len(words), 21)
        return lines

    def test_up_to_and_beyond_the_most_steps(self):
        self.assertEqual(MAX_STEPS, 10000)
        for many in (9999, 10000, 10001):
            for last, has_ended in (("", True), (" [1: | 1:]", False), (" ~", False)):
                lines = self.long_program(many)
                lines["x"] += last
                program = read_program("\n".join(f"{name} = {lines[name]}" for name in sorted(lines)))
                tosser = Tosser(program, "x")
                if many <= 10000:
                    self.assertEqual(tosser.go(), many)
                    self.assertIs(tosser.has_ended, has_ended)
                else:
                    self.assertEqual(raised(TooMany, tosser.go).limit, 10000)
                    self.assertEqual(tosser.steps, 0)
                    self.assertEqual(raised(TooMany, tosser.go, 5).limit, 10000)
                    # What was made ahead of the call does not count.
                    tosser.step()
                    self.assertEqual(tosser.go(), many)

    def test_the_count_begins_anew_behind_each_pick(self):
        lines = self.long_program(6000 + 3100)
        lines["x"] = f"{lines['x']} {{1/1: {lines['x']}}}"
        program = read_program("\n".join(f"{name} = {lines[name]}" for name in sorted(lines)))
        tosser = Tosser(program, "x")
        self.assertEqual(tosser.go(1, 1, 1, 0), 4 * 9100 + 4)
        self.assertIs(tosser.has_ended, True)
        self.assertEqual(tosser.back(many=4 * 9100 + 4), 0)

    def test_runs_without_an_end(self):
        for text in ("x = x", "x = !a x", "x = y x\ny ="):
            tosser = Tosser(read_program(text), "x")
            self.assertEqual(raised(TooMany, tosser.go).limit, 10000)
            self.assertEqual((tosser.steps, tosser.depth), (0, 1))
            for at in range(1, 10501):
                self.assertEqual(tosser.step(), at)
            self.assertEqual(tosser.deepest - 1, 10500 if text == "x = x" else 5250)
            self.assertEqual(tosser.back(many=10500), 0)

    def test_many_open_calls(self):
        """Calls that are open by the ten thousand are left, taken back, and forgotten."""
        program = read_program("x = [1: !a | 1: x !b]")
        tosser = Tosser(program, "x")
        many = 30000
        self.assertEqual(tosser.go_all((1,) * many), 2 * many)
        self.assertEqual((tosser.depth, tosser.deepest, tosser.waits), (many + 1, many + 1, 2))
        twin = tosser.twin()
        tosser.pick(0)
        for _ in range(2001):
            tosser.step()
        self.assertEqual((tosser.depth, tosser.notes), (many - 2000, ("a",) + ("b",) * 2000))
        self.assertEqual((tosser.back(many=2002), tosser.depth, tosser == twin), (2 * many, many + 1, True))
        raised(TooMany, tosser.go, 0)
        self.assertEqual(len(tosser.picks), many)
        self.assertEqual(tosser.chance, Fraction(1, 2 ** many))
        tail = Tosser(read_program("x = [1: !a | 1: x]"), "x")
        self.assertEqual(tail.go_all((1,) * 100000 + (0,)), 200002)
        self.assertEqual((tail.depth, tail.deepest, tail.has_ended), (0, 100001, True))
        self.assertEqual((tail.back(many=2), tail.depth), (200000, 100001))
        del tosser, twin, tail
        gc.collect()

    def test_back(self):
        tosser = Tosser(TURNS, "x")
        tosser.go(1, 0, 1, 0)
        self.assertIs(tosser.has_ended, True)
        for value in NOT_COUNTS:
            self.assertIs(raised(InvalidNumber, tosser.back, many=value).value, value)
        for value in (9, 10, 10 ** 999):
            self.assertIs(raised(NothingToUndo, tosser.back, many=value).many, value)
        self.assertEqual((tosser.back(many=0), tosser.has_ended), (8, True))
        self.assertEqual((tosser.back(), tosser.has_ended, tosser.waits, tosser.picks), (7, False, 2, (1, 0, 1)))
        self.assertEqual((tosser.pick(1), tosser.left), (8, ("call", "y")))
        self.assertEqual((tosser.back(many=8), tosser.picks, tosser.notes, tosser.deepest), (0, (), (), 1))
        self.assertEqual(raised(NothingToUndo, tosser.back).many, 1)
        raised(TypeError, tosser.back, 1)

    def test_trial(self):
        for _ in range(60):
            program = drawn_program(self.draw)
            name = self.draw.choice(program.names)
            tosser = Tosser(program, name)
            self.wander(tosser, 6)
            self.within(tosser, 3)

    def wander(self, tosser, many):
        for _ in range(many):
            if tosser.has_ended or (tosser.steps and self.draw.random() < 0.2):
                tosser.back(many=self.draw.randint(0, tosser.steps))
            elif tosser.waits:
                tosser.pick(self.draw.randrange(tosser.waits))
            else:
                tosser.step()

    def state(self, tosser):
        return (tosser.picks, tosser.notes, tosser.steps, tosser.depth, tosser.deepest, tosser.left, tosser.waits,
                str(tosser), tosser.chance.top, tosser.chance.bottom)

    def within(self, tosser, depth):
        before = self.state(tosser)
        twin = tosser.twin()
        with tosser.trial() as same:
            self.assertIs(same, tosser)
            self.wander(tosser, 5)
            if depth:
                self.within(tosser, depth - 1)
            inner = tosser.twin()
            kept = self.state(tosser)
        self.assertEqual(self.state(tosser), before)
        self.assertEqual(self.state(inner), kept)
        with self.assertRaises(ZeroDivisionError):
            with tosser.trial():
                self.wander(tosser, 5)
                raise ZeroDivisionError
        self.assertEqual(self.state(tosser), before)
        self.assertTrue(tosser == twin)
        self.assertEqual([tosser.back(many=1) for _ in range(tosser.steps)], list(range(twin.steps))[::-1])
        self.assertEqual(self.state(twin), before)
        for _ in range(twin.steps):
            number = twin.picks[len(tosser.picks):][:1]
            if tosser.waits:
                tosser.pick(*number)
            else:
                tosser.step()
        self.assertEqual(self.state(tosser), before)

    def test_one_trial_more_than_once(self):
        tosser = Tosser(TURNS, "x")
        trial = tosser.trial()
        tosser.pick(1)
        with trial:
            tosser.step()
            with trial as same:
                self.assertIs(same, tosser)
                tosser.pick(0)
                self.assertEqual(tosser.steps, 3)
            self.assertEqual(tosser.steps, 2)
        self.assertEqual(tosser.steps, 1)
        with trial:
            tosser.back()
        self.assertEqual(tosser.steps, 1)

    def test_attempt(self):
        tosser = Tosser(TURNS, "x")
        tosser.pick(1)
        seen = []

        def action(same):
            seen.append(same)
            return same.attempt(lambda inner: inner.go(0, 0)), same.go(0, 1)

        self.assertEqual(tosser.attempt(action), (7, 7))
        self.assertIs(seen[0], tosser)
        self.assertEqual((tosser.steps, tosser.picks), (1, (1,)))
        self.assertIsNone(tosser.attempt(lambda same: None))

        def failing(same):
            same.go(0)
            raise KeyError("mine")

        raised(KeyError, tosser.attempt, failing)
        raised(InvalidNumber, tosser.attempt, lambda same: same.go(0, 7))
        self.assertEqual((tosser.steps, tosser.picks), (1, (1,)))

    def test_twin(self):
        tosser = Tosser(PAIRS, "x")
        tosser.go(1)
        twin = tosser.twin()
        self.assertIsNot(twin, tosser)
        self.assertTrue(tosser == twin)
        twin.go(0)
        self.assertEqual((tosser.steps, twin.steps), (3, 5))
        self.assertFalse(tosser == twin)
        tosser.go(0)
        self.assertTrue(tosser == twin)
        tosser.back(many=5)
        self.assertEqual((twin.steps, twin.back(many=3), twin.picks), (5, 2, (1,)))

    def test_equal(self):
        tosser = Tosser(TURNS, "x")
        self.assertTrue(tosser == Tosser(read_program("x = [3: | 1: y y]\ny = [1: !a | 1: x]"), "x"))
        self.assertFalse(tosser == Tosser(TURNS, "y"))
        self.assertTrue(tosser != Tosser(TURNS, "y"))
        self.assertFalse(Tosser(PAIRS, "x") == Tosser(GROWS, "x"))
        other = Tosser(TURNS, "x")
        other.pick(1)
        tosser.pick(0)
        self.assertFalse(tosser == other)
        tosser.back()
        tosser.pick(1)
        self.assertTrue(tosser == other)
        tosser.step()
        self.assertFalse(tosser == other)
        staying = Tosser(LEAKS, "z")
        staying.pick(1)
        longer = staying.twin()
        longer.step()
        self.assertFalse(staying == longer)
        for value in STRANGE:
            self.assertIs(longer == value, False)
            self.assertIs(longer != value, True)


if __name__ == "__main__":
    unittest.main()

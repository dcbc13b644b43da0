import random
import unittest

import plain
from helpers import GROWS, LEAKS, PAIRS, PICKS, STRANGE, deep, drawn_program, drawn_small_body, drawn_small_program, program_of, raised
from order import check_errors, strange_but
from surelyends.choices.choices import MAX_FIXED, all_fixed, always_paper, always_sure, fixed_by, is_always_paper, sometimes
from surelyends.chances.knots import most_calls
from surelyends.errors import InvalidOperation, InvalidProgram, TooMany, UnknownName
from surelyends.numbers.fractions import Fraction
from surelyends.papers.verdicts import is_sure, is_unsure_paper
from surelyends.programs.programs import Program, part_at
from surelyends.programs.texts import read_program
from test_means import NO_NAMES

NO_PROGRAMS = strange_but(lambda value: isinstance(value, Program))
PLACE = ("x", (0, 1, 0))
NESTED = read_program("x = !a <y < | ~ | !b> | x> y <y y | >\ny = {1/2: <!a | x>}")


def drawn_choosing_program(draw):
    """A small program in which some bodies, or parts of them, are choices."""
    names = draw.sample(("a", "b", "c"), draw.randint(1, 3))
    bodies = {}
    for name in names:
        many = draw.choice((1, 2, 2, 3))
        ways = tuple(drawn_small_body(draw, names) for _ in range(many))
        if many > 1:
            ways = (("choose",) + ways,)
            sort = draw.random()
            if sort < 0.3:
                ways = (("toss", (draw.randint(1, 4), ()), (1, ways)),)
            elif sort < 0.4:
                ways = (("again", draw.randint(1, 4), 1, ways),)
            elif sort < 0.5:
                ways = (("choose", ways, (("call", name),)),)
        else:
            ways = ways[0]
        bodies[name] = ways
    return Program.of(bodies)


def drawn_free(draw):
    """A program with at most 64 plans."""
    while True:
        program = draw.choice((drawn_choosing_program, drawn_choosing_program, drawn_small_program, lambda draw: drawn_program(draw, False, 2)))(draw)
        if len(plain.all_plans(program.bodies)) <= MAX_FIXED:
            return program


def plans_text(many):
    """The body text of so many choices between two equal bodies."""
    return " ".join(["< | >"] * many)


class FixedTest(unittest.TestCase):
    def setUp(self):
        self.draw = random.Random(171)

    def test_drawn_programs(self):
        many = 0
        for _ in range(150):
            free = drawn_free(self.draw)
            plans = plain.all_plans(free.bodies)
            found = list(all_fixed(free))
            self.assertEqual([plan for plan, _ in found], plans)
            self.assertTrue(all(tuple(plan) == free.choices for plan, _ in found))
            for plan, program in found:
                self.assertTrue(program.is_closed)
                self.assertEqual(program.bodies, plain.fixed(free.bodies, plan))
                backwards = {place: plan[place] for place in reversed(plan)}
                self.assertEqual(fixed_by(free, backwards), program)
                many += 1
            self.assertEqual([list(plan.values()) for plan, _ in found], sorted(list(plan.values()) for plan, _ in found))
        self.assertGreater(many, 300)

    def test_choices_within_choices(self):
        first, inner, last, other = NESTED.choices
        self.assertEqual(len(list(all_fixed(NESTED))), 24)
        for numbers, x, y in (
                ((0, 0, 0, 0), "!a y y y y", "{1/2: !a}"), ((0, 1, 0, 1), "!a y ~ y y y", "{1/2: x}"), ((0, 2, 1, 0), "!a y !b y", "{1/2: !a}"),
                ((1, 0, 1, 0), "!a x y", "{1/2: !a}"), ((1, 2, 1, 0), "!a x y", "{1/2: !a}"), ((1, 2, 0, 1), "!a x y y y", "{1/2: x}"),
        ):
            plan = dict(zip((first, inner, last, other), numbers))
            self.assertEqual(fixed_by(NESTED, plan), read_program(f"x = {x}\ny = {y}"))
        self.assertEqual(fixed_by(PICKS, {PLACE: 0}), read_program("x = [1: | 1: !a x]"))
        self.assertEqual(fixed_by(PAIRS, {}), PAIRS)
        self.assertEqual(list(all_fixed(PAIRS)), [({}, PAIRS)])

    def test_no_plans(self):
        places = NESTED.choices
        right = {place: 1 for place in places}
        fixed_by(NESTED, right)
        wrong = strange_but(lambda value: value == {PLACE: 1}) + [
            {place: 1 for place in places[:-1]}, {**right, PLACE: 0}, {**right, places[0]: 2}, {**right, places[1]: 3}, {**right, places[0]: -1},
            {**right, places[0]: True}, {**right, places[0]: None}, {**right, places[0]: Fraction(1)}, {**right, places[0]: "1"}, {**right, None: 1},
            {**{place: 1 for place in places[1:]}, ("x", (True,)): 1}, {**{place: 1 for place in places[:-1]}, ("y", (False, False, False)): 1},
            {**{place: 1 for place in places[:-1]}, ("y", (0, 0)): 1}, {**{place: 1 for place in places[:-1]}, ("y", (0,)): 1},
            {**{place: 0 for place in places[:-1]}, ("y", (0,)): 0}, {**{place: 0 for place in places[:-1]}, ("x", ()): 0},
            {**{place: 0 for place in places[:-1]}, ("x", (0,)): 0}, {**{place: 0 for place in places[:-1]}, ("y", (0, 0)): 0},
            {**{place: 1 for place in places[:-1]}, "y": 1}, {**{place: 1 for place in places[:-1]}, 5: 1}, tuple(right.items()), list(right.items()), {},
        ]
        for value in wrong:
            raised(InvalidOperation, fixed_by, NESTED, value)
        check_errors(fixed_by, (PICKS, NO_PROGRAMS, InvalidProgram), ({PLACE: 0}, strange_but(lambda value: value == {PLACE: 1}) + [{PLACE: 2}, {PLACE: False}], InvalidOperation))
        check_errors(fixed_by, (PAIRS, NO_PROGRAMS, InvalidProgram), ({}, strange_but(lambda value: value == {}), InvalidOperation))

    def test_nothing_passed_is_kept(self):
        plan = {PLACE: 1}
        program = fixed_by(PICKS, plan)
        plan[PLACE] = 0
        self.assertEqual(program, read_program("x = [1: | 1: x x]"))
        found = all_fixed(PICKS)
        first, _ = next(found)
        first.clear()
        self.assertEqual(next(found)[0], {PLACE: 1})
        self.assertEqual(list(found), [])

    def test_too_many(self):
        self.assertEqual(MAX_FIXED, 64)
        for text, many in ((plans_text(6), 64), (plans_text(4) + " < | !a | >", 48), ("< | <~ | < | x>>>", 8),
                           ("[1: " + plans_text(2) + " | 1: {1/1: " + plans_text(4) + "}]", 64)):
            free = read_program(f"x = {text}")
            found = list(all_fixed(free))
            self.assertEqual((len(found), len({repr(plan) for plan, _ in found})), (many, many))
            always_paper(free, "x")
        choice = ("choose", (), (("call", "x"),))
        three = ("choose", (), (), ())
        calls = [always_sure, always_paper, sometimes, lambda free, name: is_always_paper(free, name, None),
                 lambda free, name: is_always_paper(free, name, ("always", ((("y", 1),),)))]
        # 65 = 5 * 13 cannot be made of choices between two and three; the next ones are 72 and 128.
        for body in ((choice,) * 7, (three,) * 4, (choice,) * 3 + (three,) * 2, (("choose", (choice,) * 3, (choice,) * 3),)):
            for bodies in ({"x": body, "y": ()}, {"x": (), "y": body}, {"x": body[:1], "y": body[1:]}):
                self.assertGreater(len(plain.all_plans(bodies)), 64)
                free = Program.of(bodies)
                for call in calls:
                    self.assertEqual(raised(TooMany, call, free, "x").limit, 64)
                    self.assertEqual(raised(TooMany, call, free, "y").limit, 64)
                    raised(UnknownName, call, free, "z")
                found = all_fixed(free)
                self.assertEqual(raised(TooMany, next, found).limit, 64)
                fixed_by(free, {place: 1 for place in free.choices})
                raised(InvalidOperation, fixed_by, free, {})
        self.assertEqual(len(list(all_fixed(Program(x=(choice,) * 6)))), 64)
        self.assertEqual(len(list(all_fixed(Program(x=(three,) * 3 + (choice,))))), 54)

    def test_errors(self):
        for call in (always_sure, always_paper, sometimes, lambda free, name: is_always_paper(free, name, None)):
            check_errors(call, (PICKS, NO_PROGRAMS, InvalidProgram), ("x", NO_NAMES, UnknownName))
        for value in NO_PROGRAMS:
            found = all_fixed(value)
            raised(InvalidProgram, next, found)


class AlwaysTest(unittest.TestCase):
    def setUp(self):
        self.draw = random.Random(172)

    def check(self, free):
        """For each procedure in how many fixed programs it is sure, and how many there are."""
        bodies = free.bodies
        plans = plain.all_plans(bodies)
        found = {}
        for name in free.names:
            sure = [plain.is_sure(plain.fixed(bodies, plan), name) for plan in plans]
            self.assertIs(always_sure(free, name), all(sure))
            paper = always_paper(free, name)
            self.assertEqual(paper[0], "always" if all(sure) else "spoilt")
            self.assertTrue(plain.is_always_paper(bodies, name, paper), paper)
            self.assertIs(is_always_paper(free, name, paper), True)
            plan = sometimes(free, name)
            self.assertEqual(plan is None, not any(sure))
            if plan is not None:
                self.assertEqual(tuple(plan), free.choices)
                self.assertTrue(is_sure(fixed_by(free, plan), name))
            if paper[0] == "spoilt":
                fixed = fixed_by(free, dict(paper[1]))
                self.assertIs(is_unsure_paper(fixed, name, ("unsure", paper[2])), True)
                self.assertTrue(all(type(value) is Fraction for _, value in paper[2]))
            else:
                self.assertTrue(all(type(weight) is Fraction for layer in paper[1] for _, weight in layer))
            found[name] = (sum(sure), len(sure))
        return found

    def test_drawn_programs(self):
        kinds = []
        for _ in range(250):
            for many, of in self.check(drawn_free(self.draw)).values():
                kinds.append("closed" if of == 1 else "all" if many == of else "none" if many == 0 else "some")
        for kind in ("all", "none", "some"):
            self.assertGreater(kinds.count(kind), 20, kind)

    def test_known_programs(self):
        for text, expected in (
                ("x = <x | >", {"x": (1, 2)}), ("x = <~ | >", {"x": (1, 2)}), ("x = <~ | ~>", {"x": (0, 2)}), ("x = < | !a>", {"x": (2, 2)}),
                ("x = [1: | 2: <x | x x>]", {"x": (1, 2)}), ("x = [1: | 1: <x | x x>]", {"x": (2, 2)}), ("x = [99: | 1: <!a | ~>]", {"x": (1, 2)}),
                ("x = [1: | 1: <x y | x x>]\ny = <x | >", {"x": (4, 4), "y": (4, 4)}), ("x = {1/1: <x | y>}\ny = [1: | 1: <x x | y y>]", {"x": (4, 4), "y": (4, 4)}),
                ("x = <y | >\ny = <x | >", {"x": (3, 4), "y": (3, 4)}), ("x = y\ny = <z | w>\nz = [1: | 1: z z]\nw = [1: | 2: w w]", {"x": (1, 2), "y": (1, 2), "z": (2, 2), "w": (0, 2)}),
                ("x = <~ | < | x>>", {"x": (1, 4)}),
                # By each plan of x alone the knot falls apart, but the weights are for all of it.
                ("x = [1: | 1: <y y | z>]\ny = [1: | 1: x]\nz = [1: x x | 3: y]", {"x": (2, 2), "y": (2, 2), "z": (2, 2)}),
                ("x = [1: | 1: <y y | z z>]\ny = [1: | 1: x]\nz = [1: x | 3: y]", {"x": (2, 2), "y": (2, 2), "z": (2, 2)}),
                ("x = [1: | 1: <y y y | z>]\ny = [1: | 1: x]\nz = [2: | 1: x]", {"x": (2, 2), "y": (2, 2), "z": (2, 2)}),
                ("x = [1: | 1: <y y y | z>]\ny = [1: | 1: <z | x>]\nz = [2: | 1: x]", {"x": (4, 4), "y": (4, 4), "z": (4, 4)}),
                ("x = [1: | 1: <y y y | z>]\ny = [1: | 3: <z | x>]\nz = [2: | 1: x]", {"x": (3, 4), "y": (3, 4), "z": (3, 4)}),
        ):
            self.assertEqual(self.check(program_of(text)), expected, text)

    def test_one_weight_for_all_choices(self):
        free = program_of("x = [1: | 1: <y y | z>]\ny = [1: | 1: x]\nz = [1: x x | 1:]")
        for weights, expected in (((2, 1, 2), True), ((4, 2, 4), True), ((2, 1, 3), True), ((2, 1, 4), True), ((2, 1, 5), False), ((2, 1, 1), False), ((2, 2, 2), True), ((2, 3, 2), False)):
            paper = ("always", (tuple(zip("xyz", weights)),))
            self.assertIs(is_always_paper(free, "x", paper), expected, weights)
            self.assertIs(plain.is_always_paper(free.bodies, "x", paper), expected, weights)
            told = dict(zip("xyz", weights))
            self.assertEqual(expected, not any(Fraction(weight).is_less(most_calls(free, name, told)) for name, weight in told.items()))

    def test_bent_papers(self):
        accepted = refused = 0
        others = STRANGE[:6] + (("always", ()), ("spoilt", (), ()), ("sure", ((("x", 1),),)))
        for _ in range(60):
            free = drawn_free(self.draw)
            if len(plain.all_plans(free.bodies)) > 8:
                continue
            name = self.draw.choice(free.names)
            for bent in plain.bent(always_paper(free, name), others):
                expected = plain.is_always_paper(free.bodies, name, bent)
                self.assertIs(is_always_paper(free, name, bent), expected, bent)
                accepted += expected
                refused += not expected
        self.assertGreater(accepted, 50)
        self.assertGreater(refused, 3000)

    def test_plans_in_papers(self):
        bad = read_program("x = [1: | 2: <x | x x>]\ny = <x | ~>")
        rows = (("x", Fraction(1, 2)),)
        first, second = bad.choices
        for pairs, expected in (
                (((first, 1), (second, 0)), True), (((first, 1), (second, 1)), True), (((first, 0), (second, 0)), False), (((second, 0), (first, 1)), False),
                (((first, 1),), False), (((first, 1), (second, 2)), False), (((first, True), (second, 0)), False), (((first, Fraction(1)), (second, 0)), False),
                (((("x", (0, True, 0)), 1), (second, 0)), False), (((("x", (0, Fraction(1), 0)), 1), (second, 0)), False), ([(first, 1), (second, 0)], False),
                (((first, 1), [second, 0]), False), (((first, 1), (second, 0), (second, 0)), False), ((((*first,), 1), ((*second,), 0)), True),
                ({first: 1, second: 0}, False), (((list(first), 1), (second, 0)), False), (((first, 1, 1), (second, 0)), False), ((), False),
        ):
            self.assertIs(is_always_paper(bad, "x", ("spoilt", pairs, rows)), expected, pairs)
            self.assertIs(plain.is_always_paper(bad.bodies, "x", ("spoilt", pairs, rows)), expected, pairs)
        self.assertIs(is_always_paper(bad, "x", ("spoilt", ((first, 1), (second, 0)), ("unsure", rows))), False)
        self.assertIs(is_always_paper(bad, "y", ("spoilt", ((first, 1), (second, 0)), rows)), False)
        self.assertIs(is_always_paper(bad, "y", ("spoilt", ((first, 1), (second, 1)), (("y", 0),))), True)
        self.assertIs(is_always_paper(GROWS, "x", ("spoilt", (), rows)), True)
        self.assertIs(is_always_paper(LEAKS, "x", ("always", ())), False)

    def test_any_value(self):
        for free in (PICKS, GROWS, PAIRS, read_program("x = [1: | 2: <x | x x>]")):
            for value in STRANGE + (deep("always"), ("always", ()), ("always", ((("x", 1),),)), ("always", (("x", 1),)), ("spoilt", (), (("x", 0),)),
                                    ("spoilt", ((PLACE, 1),), (("x", Fraction(1, 2)),)), ("always", None), ("spoilt", None, None), ("spoilt", (), None)):
                self.assertIs(is_always_paper(free, "x", value), plain.is_always_paper(free.bodies, "x", value))

    def test_parts_stay_as_they_are(self):
        self.assertEqual(part_at(PICKS, PLACE)[0], "choose")
        before = PICKS.bodies
        always_paper(PICKS, "x")
        self.assertEqual(PICKS.bodies, before)


if __name__ == "__main__":
    unittest.main()

import random
import unittest

from helpers import GROWS, LEAKS, PAIRS, PICKS, STRANGE, TURNS, all_parts, drawn_program, raised
from surelyends.errors import InvalidOperation, InvalidProgram, UnknownName
from surelyends.programs.programs import (
    MAX_DEPTH,
    MAX_PROCEDURES,
    MAX_STATEMENTS,
    MAX_WEIGHT,
    Program,
    calls_of,
    can_end,
    is_body,
    is_name,
    is_whole,
    part_at,
    put_at,
)
from surelyends.runs.tosser import Tosser

NOTE = ("note", "a")
NAMES = {"x", "a", "abcdefgh"}
RIGHT_STATEMENTS = (
    NOTE, ("call", "x"), ("call", "abcdefgh"), ("stay",), ("toss", (1, ()), (99, ())),
    ("toss", (1, (NOTE,)), (2, ()), (3, ())), ("toss", (1, ()), (2, ()), (3, ()), (4, (("stay",),))),
    ("again", 1, 99, ()), ("again", 99, 1, (NOTE, NOTE)), ("choose", (), ()), ("choose", (), (NOTE,), ()),
)
WRONG_STATEMENTS = (
    (), ("note",), ("note", "a", "b"), ("note", ""), ("note", "A"), ("note", 1), ("note", ("a",)), ("call",),
    ("call", "abcdefghi"), ("call", "x", "x"), ("call", "x y"), ("call", None), ("stay", ()), ("stay", "a"), "stay",
    ["stay"], ("Stay",), ("stay ",), ("stays",), ("", "a"), (1, "a"), (None,), (("note",), "a"),
    ("toss",), ("toss", (1, ())), ("toss", (1, ()), (1, ()), (1, ()), (1, ()), (1, ())),
    ("toss", (0, ()), (1, ())), ("toss", (100, ()), (1, ())), ("toss", (1, ()), (-1, ())),
    ("toss", (True, ()), (1, ())), ("toss", (1, ()), (False, ())), ("toss", (1, ()), ("1", ())),
    ("toss", (1, ()), (1, [])), ("toss", (1, ()), [1, ()]), ("toss", (1, ()), (1,)), ("toss", (1, ()), (1, (), ())),
    ("toss", (1, ()), (1, NOTE)), ("toss", (1, ()), (1, ((),))), ("toss", (1, ()), ((), 1)), ("toss", 1, ()),
    ("toss", (1, None), (1, ())), ("toss", ((1, ()), (1, ()))), ("again", 1, 1), ("again", 1, ()),
    ("again", 0, 1, ()), ("again", 1, 0, ()), ("again", 100, 1, ()), ("again", 1, 100, ()), ("again", True, 1, ()),
    ("again", 1, True, ()), ("again", 1, 1, []), ("again", 1, 1, NOTE), ("again", 1, 1, (), ()), ("again", (1, 1, ())),
    ("choose", ()), ("choose",), ("choose", (), (), (), ()), ("choose", (), []), ("choose", (), NOTE),
    ("choose", [(), ()]), ("choose", (), 1), ("Toss", (1, ()), (1, ())), ("coin", (1, ()), (1, ())), ("repeat", 1, 1, ()),
    ("choice", (), ()), ("notes", "a"), ("calls", "x"), ("", (1, ()), (1, ())), ["note", "a"], {"note": "a"}, "note", None, 5, True,
)


def nested(depth, inner=()):
    for at in range(depth):
        inner = ((("again", 1, 1, inner),), (("toss", (1, ()), (1, inner)),), (("choose", inner, ()),))[at % 3]
    return inner


class NamesAndBodiesTest(unittest.TestCase):
    def test_constants(self):
        self.assertEqual((MAX_PROCEDURES, MAX_STATEMENTS, MAX_DEPTH, MAX_WEIGHT), (8, 60, 4, 99))

    def test_is_name(self):
        for value in ("a", "z", "x", "abcdefgh", "self", "note", "stay", "zzzzzzzz"):
            self.assertIs(is_name(value), True)
        for value in ("", "abcdefghi", "A", "aB", "a1", "1", "a ", " a", "a\n", "\n", "a_b", "~", "a-b", "`", "{"):
            self.assertIs(is_name(value), False)
        for value in STRANGE:
            self.assertIs(is_name(value), isinstance(value, str) and value == "x")

    def test_right_bodies(self):
        self.assertIs(is_body(()), True)
        for statement in RIGHT_STATEMENTS:
            self.assertIs(is_body((statement,)), True, statement)
            self.assertIs(is_body((NOTE, statement, NOTE)), True)
            self.assertIs(is_body((("toss", (1, (NOTE,)), (1, (statement,))),)), True)
        self.assertIs(is_body(RIGHT_STATEMENTS), True)

    def test_wrong_bodies(self):
        for statement in WRONG_STATEMENTS:
            self.assertIs(is_body((statement,)), False, statement)
            self.assertIs(is_body((NOTE, statement)), False)
            self.assertIs(is_body((("again", 1, 1, (statement,)),)), False)
            self.assertIs(is_body((("choose", (), (statement,)),)), False)
            self.assertIs(is_body((("toss", (1, (statement,)), (1, ())),)), False)
        for statement in RIGHT_STATEMENTS:
            self.assertIs(is_body(statement), False, statement)
            self.assertIs(is_body([statement]), False)
            self.assertIs(is_body((list(statement),)), False)
        for value in STRANGE:
            self.assertIs(is_body(value), value in ((), (("stay",),), (("note", "a"),), PAIRS["x"]), value)

    def test_exchanged_parts(self):
        """Each part of right statements, exchanged for strange values, is right only where it is plain to see."""
        weights = [value for value in STRANGE if type(value) is int and 1 <= value <= 99]
        for value in STRANGE:
            is_weight = type(value) is int and value in weights
            is_part = is_body(value)
            self.assertIs(is_body((("again", value, 1, ()),)), is_weight)
            self.assertIs(is_body((("again", 1, value, ()),)), is_weight)
            self.assertIs(is_body((("again", 1, 1, value),)), is_part)
            self.assertIs(is_body((("toss", (1, ()), (value, ())),)), is_weight)
            self.assertIs(is_body((("toss", (1, ()), (1, value)),)), is_part)
            self.assertIs(is_body((("choose", value, ()),)), is_part)
            self.assertIs(is_body((("call", value),)), value == "x")
            self.assertIs(is_body((("note", value),)), value == "x")
            self.assertIs(is_body(((value, "x"),)), False)
            self.assertIs(is_body((value,)), value in (("stay",), ("note", "a"), ("toss", (1, ()), (1, ())),
                                                       ("again", 1, 1, ())))
            if value != ():
                self.assertIs(is_body((("toss", (1, ()), value),)), False)

    def test_depth(self):
        for depth in range(5):
            self.assertIs(is_body(nested(depth)), True)
            self.assertIs(is_body(nested(depth, (NOTE, NOTE))), True)
        for depth in (5, 6, 15):
            self.assertIs(is_body(nested(depth)), False)
        for statement in RIGHT_STATEMENTS:
            self.assertIs(is_body(nested(3, (statement,))), True)
            self.assertIs(is_body(nested(4, (statement,))), statement[0] in ("note", "call", "stay"))
        self.assertIs(is_body((NOTE,) + nested(4) + nested(5)), False)

    def test_statements(self):
        self.assertIs(is_body((NOTE,) * 60), True)
        self.assertIs(is_body((NOTE,) * 61), False)
        for depth in (1, 2, 3, 4):
            self.assertIs(is_body(nested(depth, (NOTE,) * (60 - depth))), True)
            self.assertIs(is_body(nested(depth, (NOTE,) * (61 - depth))), False)
        half = (("toss", (1, (NOTE,) * 10), (1, (NOTE,) * 19)),)
        self.assertIs(is_body(half * 2), True)
        self.assertIs(is_body(half * 2 + (NOTE,)), False)

    def test_a_tuple_that_stands_in_many_places(self):
        wide = (NOTE,) * 60
        for _ in range(4):
            wide = (("toss",) + ((1, wide),) * 4,) * 60
        self.assertIs(is_body(wide), False)


class ProgramTest(unittest.TestCase):
    def setUp(self):
        self.draw = random.Random(37)

    def test_made_by_keywords_and_by_of(self):
        one = Program(y=(("call", "x"),), x=(NOTE,))
        other = Program.of({"x": (NOTE,), "y": (("call", "x"),)})
        self.assertTrue(one == other)
        self.assertEqual(one.names, ("x", "y"))
        self.assertEqual(list(one.bodies), ["x", "y"])
        self.assertEqual(one.bodies, {"x": (NOTE,), "y": (("call", "x"),)})
        self.assertEqual(str(one), "program of 2 procedures, 2 statements")
        own = Program.of({"self": (("call", "self"),), "of": (), "bodies": ()})
        self.assertEqual(own.names, ("bodies", "of", "self"))
        self.assertEqual(own["self"], (("call", "self"),))
        self.assertEqual(Program(of=(), cls=(), table=(), given=()).names, ("cls", "given", "of", "table"))

    def test_limits(self):
        eight = {name: () for name in "abcdefgh"}
        self.assertEqual(len(Program.of(eight)), 8)
        self.assertEqual(len(Program(**eight)), 8)
        self.wrong({**eight, "i": ()})
        self.wrong({})
        self.assertEqual(str(Program(x=(NOTE,) * 60)), "program of 1 procedures, 60 statements")
        self.wrong({"x": (NOTE,) * 61})
        self.assertEqual(str(Program(x=(NOTE,) * 30, y=nested(4, (NOTE,) * 26))),
                         "program of 2 procedures, 60 statements")
        self.wrong({"x": (NOTE,) * 30, "y": nested(4, (NOTE,) * 27)})
        self.assertEqual(len(Program(x=nested(4))), 1)
        self.wrong({"x": nested(5)})

    def wrong(self, bodies):
        raised(InvalidProgram, Program.of, bodies)
        raised(InvalidProgram, Program, **bodies)

    def test_wrong_programs(self):
        self.wrong({"x": (("call", "y"),)})
        self.wrong({"x": (), "y": (("again", 1, 1, (("call", "z"),)),)})
        self.wrong({"X": ()})
        self.wrong({"": ()})
        self.wrong({"x y": ()})
        self.wrong({"abcdefghi": ()})
        self.wrong({"x": (), "_given": ()})
        self.wrong({"_given": {"x": ()}})
        self.wrong({"_given": ()})
        self.wrong({"bodies": {"x": ()}})
        for statement in WRONG_STATEMENTS:
            self.wrong({"x": (statement,)})
        for value in STRANGE:
            if not is_body(value):
                self.wrong({"x": value})
                raised(InvalidProgram, PAIRS.with_body, "x", value)
                raised(InvalidProgram, PAIRS.with_body, "y", value)
            if value not in ({"x": ()}, PAIRS.bodies):
                raised(InvalidProgram, Program.of, value)
            if value != "x" and not isinstance(value, (list, dict)) and not self.holds_list(value):
                try:
                    bodies = {value: ()}
                except TypeError:
                    continue
                raised(InvalidProgram, Program.of, bodies)

    def holds_list(self, value):
        return isinstance(value, tuple) and any(isinstance(one, (list, dict)) or self.holds_list(one) for one in value)

    def test_properties(self):
        body = (NOTE, ("choose", (("note", "b"),), (("choose", (), (), (("note", "a"),)),)), ("toss", (1, ()), (
            1, (("again", 1, 2, (("choose", (("stay",),), (("note", "zz"),)),)),))))
        program = Program(y=body, x=(("choose", (), ()), ("call", "y")))
        self.assertEqual(program.events, ("a", "b", "zz"))
        self.assertEqual(program.choices, (
            ("x", (0,)), ("y", (1,)), ("y", (1, 1, 0)), ("y", (2, 1, 0, 0, 0))))
        self.assertIs(program.is_closed, False)
        self.assertEqual((PAIRS.events, PAIRS.choices, PAIRS.is_closed), (("a",), (), True))
        self.assertEqual((GROWS.events, PICKS.is_closed), ((), False))
        for _ in range(100):
            program = drawn_program(self.draw, closed=False)
            found = [(name, path) for name in program.names for path, part in all_parts(program[name])
                     if part[:1] == ("choose",)]
            self.assertEqual(program.choices, tuple(sorted(found)))
            self.assertIs(program.is_closed, found == [])
            events = {part[1] for name in program.names for path, part in all_parts(program[name])
                      if part[:1] == ("note",)}
            self.assertEqual(program.events, tuple(sorted(events)))
            self.assertEqual(program.names, tuple(sorted(program.bodies)))
            many = sum(len(path) % 2 for name in program.names for path, _ in all_parts(program[name]))
            self.assertEqual(str(program), f"program of {len(program)} procedures, {many} statements")

    def test_it_never_changes(self):
        handed = {"x": (NOTE,), "y": ()}
        program = Program.of(handed)
        handed["x"] = ()
        handed["z"] = ()
        self.assertEqual(program.bodies, {"x": (NOTE,), "y": ()})
        out = program.bodies
        out["x"] = ()
        del out["y"]
        self.assertEqual(program.bodies, {"x": (NOTE,), "y": ()})
        for name in ("names", "bodies", "events", "choices", "is_closed"):
            with self.assertRaises(AttributeError):
                setattr(program, name, ())
        with self.assertRaises(TypeError):
            program["x"] = ()
        program.with_body("x", ())
        program.without("x")
        program.renamed({"x": "y", "y": "x"})
        put_at(program, ("x", (0,)), ("stay",))
        self.assertEqual(program.bodies, {"x": (NOTE,), "y": ()})

    def test_items(self):
        self.assertEqual(TURNS["y"], (("toss", (1, (NOTE,)), (1, (("call", "x"),))),))
        for value in STRANGE + ("xx", "z", 0, -1):
            if value != "x":
                self.assertIs(raised(UnknownName, TURNS.__getitem__, value).name, value)
                self.assertIs(value in TURNS, False)
        self.assertIs("x" in TURNS, True)
        self.assertIs("z" in TURNS, False)
        self.assertEqual((len(TURNS), len(PAIRS)), (2, 1))

    def test_it_cannot_be_iterated(self):
        for call in (iter, list, tuple, sorted, dict):
            raised(TypeError, call, PAIRS)
        with self.assertRaises(TypeError):
            first, = PAIRS

    def test_equal(self):
        for _ in range(60):
            program = drawn_program(self.draw, closed=False)
            self.assertTrue(program == Program.of(program.bodies))
            self.assertFalse(program != Program.of(program.bodies))
            self.assertFalse(program == Program.of({**program.bodies, "other": ()}))
            self.assertTrue(program != program.with_body(program.names[0], (("note", "never"),)))
        for value in STRANGE:
            self.assertIs(TURNS == value, False)
            self.assertIs(TURNS != value, True)
            self.assertIs(value == TURNS, False)
        self.assertFalse(TURNS == TURNS.bodies)

    def test_with_body(self):
        self.assertEqual(TURNS.with_body("z", (("call", "x"),)).names, ("x", "y", "z"))
        self.assertEqual(TURNS.with_body("x", ()).bodies, {"x": (), "y": TURNS["y"]})
        self.assertEqual(PAIRS.with_body("self", ()).names, ("self", "x"))
        raised(InvalidProgram, TURNS.with_body, "x", (("call", "z"),))
        raised(InvalidProgram, TURNS.with_body, "x", (NOTE,) * 58)
        self.assertEqual(str(TURNS.with_body("x", (NOTE,) * 57)), "program of 2 procedures, 60 statements")
        eight = Program.of({name: () for name in "abcdefgh"})
        raised(InvalidProgram, eight.with_body, "i", ())
        self.assertEqual(len(eight.with_body("h", (NOTE,))), 8)
        for value in STRANGE:
            if value != "x":
                raised(InvalidProgram, TURNS.with_body, value, ())

    def test_without(self):
        self.assertEqual(LEAKS.without("x").bodies, {"z": LEAKS["z"]})
        raised(InvalidOperation, LEAKS.without, "z")
        raised(InvalidOperation, TURNS.without, "x")
        raised(InvalidOperation, PAIRS.without, "x")
        twice = Program(x=(("call", "x"),), y=(("call", "y"),))
        self.assertEqual(twice.without("x").names, ("y",))
        for value in STRANGE:
            if value != "x":
                self.assertIs(raised(UnknownName, PAIRS.without, value).name, value)
                self.assertIs(raised(UnknownName, LEAKS.without, value).name, value)

    def test_renamed(self):
        swapped = TURNS.renamed({"y": "x", "x": "y"})
        self.assertEqual(swapped["y"], (("toss", (3, ()), (1, (("call", "x"), ("call", "x")))),))
        self.assertEqual(swapped["x"], (("toss", (1, (NOTE,)), (1, (("call", "y"),))),))
        self.assertTrue(TURNS.renamed({"x": "x", "y": "y"}) == TURNS)
        self.assertEqual(PICKS.renamed({"x": "self"})["self"][0][2][1][0], (
            "choose", (NOTE, ("call", "self")), (("call", "self"), ("call", "self"))))
        self.assertEqual(PAIRS.renamed({"x": "a"}).events, ("a",))
        for mapping in ({}, {"x": "a"}, {"x": "a", "y": "a"}, {"x": "a", "y": "b", "z": "c"}, {"x": "a", "z": "b"},
                        {"x": "a", "y": "B"}, {"x": "a", "y": ""}, {"x": "a", "y": 1}, {"x": "a", "y": []},
                        {"x": [], "y": []}, {"x": "a", "y": "abcdefghi"}, {"x": "a", 1: "b"}, {"x": "a", ("y",): "b"},
                        [("x", "a"), ("y", "b")], (("x", "a"), ("y", "b"))):
            raised(InvalidOperation, TURNS.renamed, mapping)
        for value in STRANGE:
            raised(InvalidOperation, TURNS.renamed, value)
            raised(InvalidOperation, TURNS.renamed, {"x": value, "y": value})
            if value != "x":
                raised(InvalidOperation, TURNS.renamed, {"x": "a", "y": value})

    def test_renamed_runs_alike(self):
        for _ in range(60):
            program = drawn_program(self.draw, closed=False)
            names = self.draw.sample(("p", "q", "x", "y", "abcdefgh"), len(program))
            mapping = dict(zip(program.names, names))
            other = program.renamed(mapping)
            self.assertEqual(other.names, tuple(sorted(names)))
            self.assertEqual(str(other), str(program))
            self.assertEqual(other.events, program.events)
            for name in program.names:
                self.assertEqual(calls_of(other, mapping[name]),
                                 tuple(sorted(mapping[called] for called in calls_of(program, name))))
            self.assertTrue(other.renamed({mapping[name]: name for name in mapping}) == program)

    def test_both(self):
        both = PAIRS.renamed({"x": "z"}) | TURNS
        self.assertEqual(both.names, ("x", "y", "z"))
        self.assertEqual(both["x"], TURNS["x"])
        self.assertEqual(both["z"][0][2][1][1], ("call", "z"))
        raised(InvalidOperation, TURNS.__or__, PAIRS)
        raised(InvalidOperation, TURNS.__or__, TURNS)
        many = Program.of({name: () for name in "abcdefg"})
        raised(InvalidProgram, many.__or__, TURNS)
        self.assertEqual(len(many | PAIRS), 8)
        raised(InvalidProgram, Program(y=(NOTE,) * 57).__or__, PAIRS)
        self.assertEqual(str(Program(y=(NOTE,) * 56) | PAIRS), "program of 2 procedures, 60 statements")
        # A name in common comes ahead of too many statements.
        raised(InvalidOperation, Program(x=(NOTE,) * 57).__or__, PAIRS)
        for value in STRANGE:
            if not isinstance(value, Program):
                with self.assertRaises(InvalidOperation):
                    TURNS | value
                with self.assertRaises(InvalidOperation):
                    value | TURNS


class PartsTest(unittest.TestCase):
    def setUp(self):
        self.draw = random.Random(41)

    def places(self, program):
        for name in program.names:
            for path, part in all_parts(program[name]):
                yield (name, path), part

    def test_part_at(self):
        for _ in range(60):
            program = drawn_program(self.draw, closed=False)
            for place, part in self.places(program):
                self.assertEqual(part_at(program, place), part)
                self.assertTrue(put_at(program, place, part) == program)

    def test_values_near_places(self):
        for _ in range(40):
            program = drawn_program(self.draw, closed=False)
            places = dict(self.places(program))
            for place in list(places)[:12]:
                name, path = place
                near = [(name, path + (number,)) for number in (0, 1, 3, 4, 60)]
                near += [(name, path[:-1] + (path[-1] + number,)) for number in (1, 2, 4) if path]
                near += [(other, path) for other in ("x", "y", "z", "zz")]
                for value in near:
                    if value in places:
                        self.assertEqual(part_at(program, value), places[value])
                    else:
                        raised(InvalidOperation, part_at, program, value)
                        raised(InvalidOperation, put_at, program, value, None)
                wrong = [name, path, (name, list(path)), [name, path], (name, path, ()), (name,), (path, name),
                         (name, path + (True,)), (name, path + (-1,)), (name, path + (None,)), (name, path + ((),)),
                         (name, path + (10 ** 999,)), (name, path + ("0",)), (name.upper(), path), (None, path)]
                wrong += [(name, path[:at] + (bad,) + path[at + 1:]) for at in range(len(path))
                          for bad in (False, -1, None, path[at] - 60, str(path[at]), (path[at],))]
                for value in wrong:
                    raised(InvalidOperation, part_at, program, value)
                    raised(InvalidOperation, put_at, program, value, None)

    def test_strange_places(self):
        for value in STRANGE:
            for call in (lambda place: part_at(PAIRS, place), lambda place: put_at(PAIRS, place, None)):
                if value not in (("x", ()), ("x", (0,))):
                    raised(InvalidOperation, call, value)
                if value not in ((), (0,)) and not isinstance(value, Tosser):
                    raised(InvalidOperation, call, ("x", value))
                if value != "x":
                    raised(InvalidOperation, call, (value, ()))

    def test_what_is_no_program(self):
        for value in STRANGE:
            if not isinstance(value, Program):
                raised(InvalidProgram, part_at, value, None)
                raised(InvalidProgram, put_at, value, None, None)
                raised(InvalidProgram, calls_of, value, None)
                raised(InvalidProgram, is_whole, value, None)
                raised(InvalidProgram, can_end, value)
        raised(InvalidProgram, can_end, PICKS)

    def changed(self, body, path, part):
        """The body with another part, made anew by hand."""
        if path == ():
            return part
        number, *rest = path
        new = list(body)
        if not rest:
            new[number] = part
            return tuple(new)
        statement = list(body[number])
        inner, *rest = rest
        if statement[0] == "toss":
            weight, within = statement[1 + inner]
            statement[1 + inner] = (weight, self.changed(within, tuple(rest), part))
        else:
            at = 3 if statement[0] == "again" else 1 + inner
            statement[at] = self.changed(statement[at], tuple(rest), part)
        new[number] = tuple(statement)
        return tuple(new)

    def test_put_at(self):
        for _ in range(40):
            program = drawn_program(self.draw, closed=False)
            before = program.bodies
            for place, _ in self.places(program):
                name, path = place
                statement = self.draw.choice(RIGHT_STATEMENTS + (("call", program.names[0]),))
                for part in (statement, (statement, statement), (), NOTE, (NOTE,) * 3, None, "x", list(statement)):
                    bodies = {**before, name: self.changed(before[name], path, part)}
                    try:
                        expected = Program.of(bodies)
                    except InvalidProgram:
                        raised(InvalidProgram, put_at, program, place, part)
                        continue
                    self.assertTrue(put_at(program, place, part) == expected)
                    self.assertEqual(part_at(expected, place), part)
            self.assertEqual(program.bodies, before)

    def test_strange_parts(self):
        for value in STRANGE:
            if value not in (("stay",), ("note", "a"), ("toss", (1, ()), (1, ())), ("again", 1, 1, ())):
                raised(InvalidProgram, put_at, PAIRS, ("x", (0,)), value)
                raised(InvalidProgram, put_at, PAIRS, ("x", (0, 1, 0)), value)
            if not is_body(value):
                raised(InvalidProgram, put_at, PAIRS, ("x", ()), value)
                raised(InvalidProgram, put_at, PAIRS, ("x", (0, 0)), value)

    def test_calls_and_whole(self):
        for _ in range(60):
            program = drawn_program(self.draw, closed=False)
            for name in program.names:
                words = [part for place, part in self.places(program) if place[0] == name and len(place[1]) % 2]
                self.assertEqual(calls_of(program, name),
                                 tuple(sorted({part[1] for part in words if part[0] == "call"})))
                self.assertIs(is_whole(program, name), ("stay",) not in words)
        for value in STRANGE:
            if value != "x":
                self.assertIs(raised(UnknownName, calls_of, PICKS, value).name, value)
                self.assertIs(raised(UnknownName, is_whole, PICKS, value).name, value)
        self.assertEqual(calls_of(PICKS, "x"), ("x",))
        self.assertIs(is_whole(PICKS, "x"), True)


class CanEndTest(unittest.TestCase):
    def assert_can_end(self, names, **bodies):
        self.assertEqual(can_end(Program(**bodies)), names)

    def call(self, name):
        return ("call", name)

    def test_single_statements(self):
        self.assert_can_end(("x",), x=())
        self.assert_can_end(("x",), x=(NOTE,))
        self.assert_can_end((), x=(NOTE, ("stay",)))
        self.assert_can_end((), x=(self.call("x"),))
        self.assert_can_end(("x",), x=(("again", 1, 99, (("stay",), self.call("x"))),))
        self.assert_can_end(("x",), x=(("toss", (1, (("stay",),)), (1, (self.call("x"),)), (1, (NOTE,))),))
        self.assert_can_end((), x=(("toss", (1, (("stay",),)), (1, (self.call("x"),))),))
        self.assert_can_end((), x=(("toss", (1, ()), (1, ())), ("again", 1, 1, ()), ("stay",)))

    def test_rings(self):
        x, y, z = self.call("x"), self.call("y"), self.call("z")
        self.assert_can_end((), x=(y,), y=(z,), z=(x,))
        self.assert_can_end(("x", "y", "z"), x=(y,), y=(z,), z=(("toss", (1, ()), (1, (x,))),))
        self.assert_can_end(("z",), x=(y, z), y=(x,), z=())
        self.assert_can_end(("x", "y", "z"), x=(("toss", (1, (x,)), (1, (y, z))),), y=(z,), z=(("again", 1, 1, (x,)),))
        self.assert_can_end(("y",), x=(y, x), y=())

    def test_against_runs(self):
        """A procedure can end exactly if it can within depths that grow, counted here by sets."""
        draw = random.Random(43)

        def ends(body, able):
            return all(
                statement[1] in able if statement[0] == "call"
                else any(ends(branch[1], able) for branch in statement[1:]) if statement[0] == "toss"
                else statement[0] in ("note", "again")
                for statement in body)

        found = set()
        for _ in range(200):
            program = drawn_program(draw)
            able = set()
            for _ in range(9):
                able = {name for name in program.names if ends(program[name], able)}
            self.assertEqual(can_end(program), tuple(sorted(able)))
            found.add(len(able) - len(program))
        self.assertGreater(len(found), 2)


if __name__ == "__main__":
    unittest.main()

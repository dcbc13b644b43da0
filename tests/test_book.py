import random
import unittest

import plain
from helpers import (
    GROWS,
    LEAKS,
    PAIRS,
    PICKS,
    STRANGE,
    TURNS,
    drawn_body,
    drawn_small_body,
    is_integer,
    raised,
)
from order import strange_but
from surelyends.errors import EndError, InvalidEdit, InvalidNumber, InvalidOperation, InvalidProgram, NothingToUndo, UnknownName
from surelyends.live.book import Book
from surelyends.means.means import mean_of
from surelyends.numbers.fractions import Fraction
from surelyends.papers.verdicts import is_sure
from surelyends.programs.programs import Program, is_body, is_name
from surelyends.programs.texts import read_body, read_program
from surelyends.runs.tosser import Tosser

NAMES = ("a", "b", "c", "self", "x")


class NoEdit(Exception):
    pass


def plain_state(program, name, prices):
    if program is None or name not in program:
        return None
    if not is_sure(program, name):
        return ("unsure",)
    mean = mean_of(program, name, prices)
    return ("endless",) if mean is None else ("finite", mean)


def renamed(body, name, other):
    found = []
    for statement in body:
        parts = [renamed(part, name, other) for part in plain.bodies_of(statement)]
        found.append(plain.with_bodies(statement, parts) if parts else ("call", other) if statement == ("call", name) else statement)
    return tuple(found)


def plain_edited(bodies, prices, edits):
    """Dicts behind the edits, by [19.1]; NoEdit for the first one that is none."""
    for edit in edits:
        if type(edit) is not tuple or not edit or type(edit[0]) is not str:
            raise NoEdit
        word, *told = edit
        if word == "set" and len(told) == 2 and is_name(told[0]) and is_body(told[1]):
            bodies = {**bodies, told[0]: told[1]}
        elif word == "drop" and len(told) == 1 and type(told[0]) is str and told[0] in bodies:
            bodies = {name: body for name, body in bodies.items() if name != told[0]}
        elif word == "rename" and len(told) == 2 and is_name(told[1]) and type(told[0]) is str and told[0] in bodies and told[1] not in bodies:
            bodies = {told[1] if name == told[0] else name: renamed(body, *told) for name, body in bodies.items()}
        elif word == "price" and len(told) == 2 and is_name(told[0]) and is_integer(told[1]) and 0 <= told[1] <= 99:
            prices = {**prices, told[0]: told[1]}
        else:
            raise NoEdit
    return bodies, {event: price for event, price in prices.items() if price}


class PlainBook:
    """A book that keeps all programs and prices in a list, and all else besides."""

    def __init__(self):
        self.line = [(None, {})]
        self.at = 0
        self.past = self.line[0]
        self.watched = set()

    def copy(self):
        other = PlainBook()
        other.line, other.at, other.past, other.watched = list(self.line), self.at, self.past, set(self.watched)
        return other

    @property
    def present(self):
        return self.line[self.at]

    def do(self, edits):
        program, prices = self.present
        bodies, prices = plain_edited({} if program is None else program.bodies, prices, edits)
        program = Program.of(bodies) if bodies else None
        if program is not None and not program.is_closed:
            raise InvalidProgram("choices")
        self.past = self.present
        if edits:
            self.line = self.line[:self.at + 1] + [(program, prices)]
            self.at += 1

    def go(self, many):
        if not 0 <= self.at + many < len(self.line):
            raise NothingToUndo(many)
        self.past = self.present
        self.at += many

    def news(self):
        found = []
        for name in sorted(self.watched):
            before, behind = plain_state(self.past[0], name, self.past[1]), plain_state(self.present[0], name, self.present[1])
            if before != behind:
                found.append((name, before, behind))
        return found


def drawn_edit(draw, names):
    sort = draw.random()
    if sort < 0.5:
        body = drawn_small_body(draw, names) if draw.random() < 0.8 else drawn_body(draw, names, 2, 2, draw.random() < 0.9)
        return ("set", draw.choice(names), body)
    if sort < 0.6:
        return ("drop", draw.choice(NAMES))
    if sort < 0.7:
        return ("rename", draw.choice(NAMES), draw.choice(NAMES))
    if sort < 0.95:
        return ("price", draw.choice(("a", "b", "event")), draw.choice((0, 0, 1, 7, 99)))
    return draw.choice((("set", "x"), ("drop", "x", "y"), ("price", "a", 100), ("rename", "x"), ("drop", None), (), ("stay",), ("set", "X", ())))


class DrawnBooksTest(unittest.TestCase):
    def setUp(self):
        self.draw = random.Random(201)

    def same(self, book, model, deep=True):
        program, prices = model.present
        names = () if program is None else program.names
        self.assertEqual((book.names, book.prices, book.steps, book.watched), (names, dict(sorted(prices.items())), model.at, tuple(sorted(model.watched))))
        self.assertEqual(list(book.prices), sorted(prices))
        self.assertEqual(len(book), len(names))
        if deep:
            self.assertEqual(list(book.news()), model.news())
            states = {name: plain_state(program, name, prices) for name in names}
            self.assertEqual(book.states(), states)
            self.assertEqual(list(book.states()), list(names))
            sure = sum(state != ("unsure",) for state in states.values())
            self.assertEqual(str(book), f"book of {len(names)} procedures, {sure} sure")
            for name in names:
                self.assertEqual(book.state(name), states[name])
                self.assertEqual(book[name], program[name])
                self.assertIs(name in book, True)
            if program is None:
                raised(InvalidOperation, book.as_program)
            else:
                self.assertEqual(book.as_program(), program)

    def move(self, book, model, counts):
        """One call at both books; what the one refuses the other refuses, too."""
        sort = self.draw.random()
        if sort < 0.55:
            names = self.draw.sample(NAMES, 3)
            edits = tuple(drawn_edit(self.draw, names) for _ in range(self.draw.choice((0, 1, 1, 2, 3, 5))))
            call = (lambda: book.do(*edits)) if self.draw.random() < 0.5 else (lambda: book.do_all(edits))
            self.both(book, model, call, lambda: model.do(edits), counts, "do")
        elif sort < 0.75:
            many = self.draw.choice((0, 1, 1, 1, 2, 3, 5))
            call = (lambda: book.undo()) if many == 1 and self.draw.random() < 0.5 else (lambda: book.undo(many=many))
            self.both(book, model, call, lambda: model.go(-many), counts, "undo")
        elif sort < 0.87:
            many = self.draw.choice((0, 1, 1, 1, 2, 3))
            call = (lambda: book.redo()) if many == 1 and self.draw.random() < 0.5 else (lambda: book.redo(many=many))
            self.both(book, model, call, lambda: model.go(many), counts, "redo")
        elif sort < 0.95:
            name = self.draw.choice(NAMES + ("other",))
            model.watched.add(name)
            self.assertEqual(book.watch(name), len(model.watched))
        else:
            name = self.draw.choice(NAMES)
            if name in model.watched:
                model.watched.discard(name)
                self.assertEqual(book.unwatch(name), len(model.watched))
            else:
                raised(InvalidOperation, book.unwatch, name)

    def both(self, book, model, call, expected, counts, word):
        try:
            expected()
        except NoEdit:
            raised(InvalidEdit, call)
            counts.append((word, "refused"))
        except NothingToUndo:
            raised(NothingToUndo, call)
            counts.append((word, "refused"))
        except InvalidProgram:
            raised(InvalidProgram, call)
            counts.append((word, "no program"))
        else:
            self.assertEqual(call(), model.at)
            counts.append((word, "done"))

    def test_drawn_calls(self):
        counts, changed = [], 0
        for _ in range(120):
            book, model = Book(), PlainBook()
            for _ in range(30):
                self.move(book, model, counts)
                self.same(book, model, self.draw.random() < 0.5)
                changed += len(model.news())
        for kind, least in ((("do", "done"), 150), (("do", "refused"), 100), (("do", "no program"), 100), (("undo", "done"), 80),
                            (("undo", "refused"), 30), (("redo", "done"), 40), (("redo", "refused"), 30)):
            self.assertGreater(counts.count(kind), least, kind)
        self.assertGreater(changed, 250)

    def test_trials_and_twins(self):
        for _ in range(40):
            book, model = Book(), PlainBook()
            for _ in range(12):
                self.move(book, model, [])
            kept = model.copy()
            twin = book.twin()
            with book.trial() as same:
                self.assertIs(same, book)
                for _ in range(5):
                    self.move(book, model, [])
                inside = model.copy()
                with book.trial():
                    for _ in range(5):
                        self.move(book, model, [])
                    self.same(book, model)
                self.same(book, inside)
                self.assertEqual(book.attempt(lambda one: one.do(("price", "event", 5))), inside.at + 1)
                self.same(book, inside)
            self.same(book, kept)
            for error in (KeyError, InvalidEdit):
                with self.assertRaises(error):
                    with book.trial():
                        book.watch("news")
                        book.do(("price", "b", 1))
                        raise error("x")
                self.same(book, kept)
            raised(InvalidEdit, book.attempt, lambda one: (one.do(("price", "b", 1)), one.do(("drop", "nobody"))))
            self.same(book, kept)
            # Twins go their own ways, also back.
            other = kept.copy()
            for _ in range(8):
                self.move(twin, other, [])
            self.same(twin, other)
            self.same(book, kept)
            self.assertEqual(book == twin, kept.present == other.present)

    def test_one_trial_entered_twice(self):
        book = Book()
        trial = book.trial()
        with trial:
            book.do(("set", "x", ()))
            with trial:
                book.do(("drop", "x"))
            self.assertEqual(book.names, ("x",))
        self.assertEqual((book.names, book.steps), ((), 0))
        with trial:
            book.watch("x")
        self.assertEqual(book.watched, ())


class BookTest(unittest.TestCase):
    def book_of(self, program, **prices):
        book = Book()
        book.do_all(tuple(("set", name, body) for name, body in program.bodies.items()))
        if prices:
            book.do(*(("price", event, price) for event, price in prices.items()))
        return book

    def test_a_new_book(self):
        book = Book()
        self.assertEqual((book.names, book.prices, book.steps, book.watched, len(book), str(book), book.states(), list(book.news())),
                         ((), {}, 0, (), 0, "book of 0 procedures, 0 sure", {}, []))
        raised(InvalidOperation, book.as_program)
        raised(UnknownName, book.state, "x")
        self.assertFalse(book)
        self.assertEqual(book, Book())
        self.assertEqual((book.undo(many=0), book.redo(many=0), book.do(), book.do_all(())), (0, 0, 0, 0))
        raised(NothingToUndo, book.undo)
        raised(NothingToUndo, book.redo)

    def test_calls_of_what_comes_later(self):
        book = Book()
        self.assertEqual(book.do(("set", "x", read_body("y z")), ("set", "z", read_body("y")), ("set", "y", ())), 1)
        self.assertEqual(book.as_program(), read_program("x = y z\ny =\nz = y"))
        raised(InvalidProgram, book.do, ("drop", "y"))
        # What is called must be there behind the last edit only.
        self.assertEqual(book.do(("drop", "y"), ("set", "y", read_body("!a"))), 2)
        raised(InvalidProgram, book.do, ("set", "w", read_body("v")))
        self.assertEqual(book.do(("set", "w", read_body("v")), ("rename", "x", "v")), 3)
        self.assertEqual(book.as_program(), read_program("v = y z\nw = v\ny = !a\nz = y"))
        self.assertEqual(book.do(*(("drop", name) for name in "vwyz")), 4)
        self.assertEqual((book.names, book.undo(many=4), book.redo(many=3), book.names), ((), 0, 3, ("v", "w", "y", "z")))

    def test_renamed_in_all_calls(self):
        program = read_program("a = x [1: x | 1: {1/1: x a}] !x\nx = x a !a")
        book = self.book_of(program, x=3)
        book.watch("x")
        book.watch("y")
        book.do(("rename", "x", "y"))
        self.assertEqual(book.as_program(), read_program("a = y [1: y | 1: {1/1: y a}] !x\ny = y a !a"))
        self.assertEqual(book.prices, {"x": 3})
        self.assertEqual([one[0] for one in book.news()], ["x", "y"])
        for edit in (("rename", "y", "y"), ("rename", "x", "z"), ("rename", "y", "a"), ("rename", "a", "y")):
            raised(InvalidEdit, book.do, edit)

    def test_prices(self):
        book = self.book_of(TURNS, a=1, b=0, zz=99)
        self.assertEqual((book.prices, book.state("x")), ({"a": 1, "zz": 99}, ("finite", Fraction(1, 3))))
        book.do(("price", "a", 3))
        self.assertEqual((book.prices, book.state("x")), ({"a": 3, "zz": 99}, ("finite", 1)))
        book.do(("price", "a", 0), ("price", "zz", 0))
        self.assertEqual((book.prices, book.states(), book.steps), ({}, {"x": ("finite", 0), "y": ("finite", 0)}, 4))
        book.do(("price", "c", 5), ("price", "a", 7), ("price", "b", 9), ("price", "b", 0))
        self.assertEqual(list(book.prices), ["a", "c"])
        book.undo(many=2)
        self.assertEqual((book.prices, book.steps), ({"a": 3, "zz": 99}, 3))

    def test_states(self):
        for program, prices, expected in (
                (PAIRS, {"a": 1}, {"x": ("endless",)}), (PAIRS, {}, {"x": ("finite", 0)}), (GROWS, {"a": 1}, {"x": ("unsure",)}),
                (LEAKS, {"a": 1}, {"x": ("unsure",), "z": ("unsure",)}), (TURNS, {"a": 1}, {"x": ("finite", Fraction(1, 3)), "y": ("finite", Fraction(2, 3))}),
                (read_program("x = y\ny = !a ~"), {"a": 1}, {"x": ("unsure",), "y": ("unsure",)}), (read_program("x = !a !a"), {"a": 99}, {"x": ("finite", 198)}),
        ):
            book = self.book_of(program, **prices)
            self.assertEqual(book.states(), expected)
            self.assertTrue(all(type(state[1]) is Fraction for state in book.states().values() if len(state) == 2))

    def test_news(self):
        book = Book()
        for name in ("x", "nobody", "z", "y"):
            book.watch(name)
        book.do(("set", "x", PAIRS["x"]), ("set", "w", ()))
        told = [("x", None, ("finite", 0))]
        self.assertEqual(list(book.news()), told)
        # After refused calls, and asked again, the news stay; an unwatched name has none, one that is watched later has.
        for call, passed in ((book.do, (("drop", "y"),)), (book.do, (("set", "x", read_body("v")),)), (book.do_all, ([],)), (book.redo, ())):
            with self.assertRaises((ValueError, LookupError)):
                call(*passed)
            self.assertEqual(list(book.news()), told)
        self.assertEqual(list(book.news()), told)
        book.watch("w")
        self.assertEqual(list(book.news()), [("w", None, ("finite", 0))] + told)
        book.unwatch("x")
        self.assertEqual(list(book.news()), [("w", None, ("finite", 0))])
        book.watch("x")
        book.do(("price", "a", 2))
        self.assertEqual(list(book.news()), [("x", ("finite", 0), ("endless",))])
        book.do(("set", "x", read_body("[2: | 1: !a x x]")))
        self.assertEqual(list(book.news()), [("x", ("endless",), ("finite", 2))])
        book.undo(many=2)
        self.assertEqual(list(book.news()), [("x", ("finite", 2), ("finite", 0))])
        book.redo()
        self.assertEqual(list(book.news()), [("x", ("finite", 0), ("endless",))])
        book.do()
        self.assertEqual((list(book.news()), book.steps), ([], 2))
        # A step without edits is none, so what was undone can be made again.
        book.redo()
        self.assertEqual(list(book.news()), [("x", ("endless",), ("finite", 2))])
        book.undo(many=0)
        self.assertEqual(list(book.news()), [])
        book.undo(many=3)
        self.assertEqual(list(book.news()), [("w", ("finite", 0), None), ("x", ("finite", 2), None)])

    def test_new_steps_behind_undone_ones(self):
        book = Book()
        for name in "abcd":
            book.do(("set", name, ()))
        self.assertEqual((book.undo(many=3), book.redo(), book.names), (1, 2, ("a", "b")))
        raised(InvalidEdit, book.do, ("drop", "d"))
        self.assertEqual((book.redo(), book.undo(many=2)), (3, 1))
        self.assertEqual(book.do(("price", "a", 1)), 2)
        raised(NothingToUndo, book.redo)
        self.assertEqual(raised(NothingToUndo, book.undo, many=3).many, 3)
        self.assertEqual((book.undo(many=2), book.redo(many=2), book.names, book.prices), (0, 2, ("a",), {"a": 1}))

    def test_many_steps(self):
        book = Book()
        for number in range(600):
            book.do(("price", "a", number % 100), ("set", "x", read_body("!a")))
        self.assertEqual((book.steps, book.undo(many=599), book.redo(many=599), book.state("x")), (600, 1, 600, ("finite", 99)))
        self.assertEqual(raised(NothingToUndo, book.undo, many=10 ** 999).many, 10 ** 999)

    def test_limits(self):
        book = Book()
        eight = tuple(("set", name, ()) for name in "abcdefgh")
        self.assertEqual(book.do_all(eight), 1)
        raised(InvalidProgram, book.do, ("set", "i", ()))
        self.assertEqual(book.do(("set", "i", ()), ("drop", "a")), 2)
        raised(InvalidProgram, book.do, ("set", "b", (("note", "a"),) * 60), ("set", "c", (("note", "a"),)))
        raised(InvalidEdit, book.do, ("set", "b", (("note", "a"),) * 61))
        self.assertEqual(book.do(("set", "b", (("note", "a"),) * 60)), 3)
        raised(InvalidProgram, book.do, ("set", "b", PICKS["x"]))
        self.assertEqual(book.do(("set", "b", PICKS["x"]), ("set", "b", ())), 4)
        raised(InvalidProgram, book.do, ("set", "b", read_body("x")))

    def test_wrong_edits(self):
        book = self.book_of(PAIRS, a=5)
        rights = (("set", "x", ()), ("drop", "x"), ("rename", "x", "y"), ("price", "a", 1))
        wrong = strange_but(lambda value: value in rights) + [
            ("set",), ("set", "y"), ("set", "y", (), ()), ("set", "Y", ()), ("set", None, ()), ("set", "y", None), ("set", "y", "x"), ("set", "y", []), ("set", "y", [()]),
            ("set", "y", (("stay",), 1)), ("set", "y", ("stay",)), ("set", ("y",), ()), ("set", "abcdefghi", ()), ("set", "", ()), ["set", "y", ()],
            ("drop",), ("drop", "nobody"), ("drop", None), ("drop", "x", "x"), ("drop", "x", None), ("drop", ["x"]), ("drop", "X"), ("Drop", "x"), ("drop ", "x"), ["drop", "x"],
            ("rename", "x"), ("rename", "x", "x"), ("rename", "y", "z"), ("rename", "x", "Z"), ("rename", "x", None), ("rename", "x", ""), ("rename", "x", "y", "z"),
            ("rename", None, "y"), ("rename", "x", ["y"]), ("rename", ["x"], "y"), ["rename", "x", "y"],
            ("price", "a"), ("price", "a", 100), ("price", "a", -1), ("price", "a", True), ("price", "a", None), ("price", "a", Fraction(1)), ("price", "a", "1"),
            ("price", "A", 1), ("price", "a b", 1), ("price", None, 1), ("price", "a", 1, 1), ("price", 1, "a"), ["price", "a", 1], ("price", "a", ()),
            ("stay",), ("cost", "a", 1), ("cost", "x", 1), ("", "x", 1), ("dropped", "x"), ("again", "x", ()), ("note", "a"), ("call", "x"), ("set", "set", "set"), (True, "x"), (Fraction(1), "x", ()), (("set",), "x", ()),
        ]
        before = book.twin()
        right = (("price", "b", 3), ("set", "y", read_body("x")), ("rename", "x", "z"))
        for edit in wrong:
            for edits in ((edit,), (edit,) + right, right + (edit,), right[:1] + (edit,) + right[1:], (edit, ("set", "w", read_body("nobody")))):
                raised(InvalidEdit, book.do, *edits)
                raised(InvalidEdit, book.do_all, edits)
            # An edit that is none comes ahead of procedures that are no program, wherever it stands.
            raised(InvalidEdit, book.do, ("set", "w", read_body("nobody")), edit)
        for edits in strange_but(lambda value: value == () and type(value) is tuple):
            if type(edits) is not tuple:
                raised(InvalidEdit, book.do_all, edits)
        raised(InvalidEdit, book.do_all, [("price", "b", 3)])
        self.assertEqual((book, book.steps, book.prices), (before, 2, {"a": 5}))
        # Names as they are when the edit is reached.
        raised(InvalidEdit, book.do, ("drop", "x"), ("drop", "x"))
        raised(InvalidEdit, book.do, ("rename", "x", "y"), ("drop", "x"))
        raised(InvalidEdit, book.do, ("set", "y", ()), ("rename", "x", "y"))
        self.assertEqual(book.do(("rename", "x", "y"), ("rename", "y", "w"), ("rename", "w", "x")), 3)
        self.assertEqual(book, before)

    def test_wrong_numbers_and_names(self):
        book = self.book_of(PAIRS)
        for value in strange_but(lambda value: is_integer(value) and value >= 0) + [-1, True, False, "1", Fraction(1)]:
            self.assertIs(raised(InvalidNumber, book.undo, many=value).value, value)
            self.assertIs(raised(InvalidNumber, book.redo, many=value).value, value)
        for value in strange_but(lambda value: type(value) is str and value == "x"):
            self.assertIs(raised(UnknownName, book.state, value).name, value)
            self.assertIs(raised(UnknownName, lambda: book[value]).name, value)
            self.assertIs(value in book, False)
        book.watch("x")
        for value in STRANGE + ("abcdefghi", "", "X", ["x"], ("x",)):
            if not is_name(value):
                raised(InvalidOperation, book.watch, value)
                raised(InvalidOperation, book.unwatch, value)
        raised(InvalidOperation, book.unwatch, "y")
        self.assertEqual((book.watch("x"), book.watch("y"), book.unwatch("x"), book.watched), (1, 2, 1, ("y",)))
        raised(InvalidOperation, book.unwatch, "x")
        self.assertEqual((book.unwatch("y"), book.watched), (0, ()))

    def test_equality(self):
        book, other = self.book_of(PAIRS, a=1), self.book_of(PAIRS)
        self.assertNotEqual(book, other)
        other.do(("price", "b", 2), ("price", "b", 0), ("price", "a", 1))
        other.watch("z")
        self.assertTrue(book == other and not book != other)
        other.do(("set", "x", GROWS["x"]))
        self.assertFalse(book == other)
        other.undo()
        self.assertEqual(book, other)
        other.do(("rename", "x", "y"))
        self.assertNotEqual(book, other)
        for value in STRANGE + (PAIRS, {"x": PAIRS["x"]}, Tosser(PAIRS, "x")):
            self.assertFalse(book == value)
            self.assertTrue(book != value)

    def test_nothing_gives_access(self):
        book = self.book_of(TURNS, a=2)
        book.watch("x")
        book.prices["a"] = 50
        book.prices.clear()
        book.states().clear()
        book.as_program().bodies.clear()
        body = ["not a body"]
        with self.assertRaises(InvalidEdit):
            book.do(("set", "x", body))
        self.assertEqual((book.prices, book.names, book.state("y"), book.watched), ({"a": 2}, ("x", "y"), ("finite", Fraction(4, 3)), ("x",)))
        raised(TypeError, iter, book)
        raised(TypeError, list, book)
        with self.assertRaises(EndError):
            book.do(None)

    def test_a_generator_of_news(self):
        book = self.book_of(PAIRS)
        book.watch("x")
        book.do(("price", "a", 1))
        found = book.news()
        self.assertEqual(next(found), ("x", ("finite", 0), ("endless",)))
        self.assertEqual(list(found), [])


if __name__ == "__main__":
    unittest.main()

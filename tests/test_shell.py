import random
import re
import unittest

from helpers import GROWS, LEAKS, PAIRS, STRANGE, TURNS, drawn_small_body, raised
from order import strange_but
from surelyends.change.stops import least_stops
from surelyends.errors import (
    InvalidCommand,
    InvalidEdit,
    InvalidOperation,
    InvalidProgram,
    NothingToUndo,
    ParseError,
    UnknownName,
)
from surelyends.live.book import Book
from surelyends.means.endless import spread_of
from surelyends.numbers.fractions import Fraction
from surelyends.papers.bounds import is_between_paper
from surelyends.papers.verdicts import is_paper
from surelyends.programs.texts import body_text, line_text, read_body
from surelyends.text.formats import format_fraction, parse_fraction, parse_paper
from surelyends.text.shell import Shell

THREE = ("set x", "set z", "set y", "set x [1: y | 1: z]", "set y [1: | 2: y z]", "set z [1: | 2: x z]")
COMMAND = re.compile(
    r"set [a-z]{1,8}( [!-~]+)*|(drop|watch|unwatch|show|state|spread|paper|stops) [a-z]{1,8}|rename [a-z]{1,8} [a-z]{1,8}|names"
    r"|price [a-z]{1,8} (0|[1-9][0-9]?)|(undo|redo) (0|[1-9][0-9]{0,3})|chance [a-z]{1,8} ([1-9]|[123][0-9]|40)")


def state_text(state):
    return "none" if state is None else " ".join([state[0]] + [str(one) for one in state[1:]])


def plain_answer(book, line):
    """The answer by calls of the book and of what works on its program; it raises what they raise."""
    word, *told = line.split(" ")
    if word in ("watch", "unwatch"):
        return str((book.watch if word == "watch" else book.unwatch)(told[0]))
    if word == "names":
        return " ".join(book.names) or "none"
    if word in ("show", "state", "spread", "chance", "paper", "stops"):
        name = told[0]
        state = book.state(name)
        program = book.as_program()
        if word == "show":
            return line_text(program, name)
        if word == "state":
            return state_text(state)
        if word == "spread":
            return format_fraction(spread_of(program, name, book.prices))
        if word == "stops":
            return ", ".join(" + ".join(names) or "-" for names in least_stops(program, name)) or "none"
        return None
    if word == "set":
        book.do(("set", told[0], read_body(" ".join(told[1:]))))
    elif word in ("undo", "redo"):
        (book.undo if word == "undo" else book.redo)(many=int(told[0]))
    else:
        book.do((word, told[0], *([int(told[1])] if word == "price" else told[1:])))
    return ", ".join(f"{name}: {state_text(before)} to {state_text(behind)}" for name, before, behind in book.news()) or "ok"


def drawn_line(draw):
    name, other = draw.choice("abcx"), draw.choice("abcx")
    sort = draw.random()
    if sort < 0.35:
        return f"set {name} {body_text(drawn_small_body(draw, ('a', 'b', 'x')))}".rstrip(" ")
    if sort < 0.55:
        return draw.choice((f"drop {name}", f"rename {name} {other}", f"price {draw.choice('ab')} {draw.choice((0, 1, 7, 99))}", f"undo {draw.randint(0, 3)}",
                            f"redo {draw.randint(0, 2)}"))
    if sort < 0.7:
        return draw.choice((f"watch {name}", f"watch {name}", f"unwatch {name}"))
    return draw.choice(("names", f"show {name}", f"state {name}", f"spread {name}", f"chance {name} {draw.choice((1, 3, 40))}", f"paper {name}", f"stops {name}"))


class DrawnLinesTest(unittest.TestCase):
    def setUp(self):
        self.draw = random.Random(221)

    def check_answer(self, book, line, answer):
        program, name = book.as_program(), line.split(" ")[1]
        if line.startswith("paper"):
            self.assertTrue(is_paper(program, name, parse_paper(answer)), answer)
            return
        low, _, high = answer.partition(" to ")
        low, high = parse_fraction(low), parse_fraction(high)
        error = Fraction(1, 10 ** int(line.split(" ")[2]))
        self.assertFalse(error.is_less(high - low))
        self.assertFalse(high.is_less(low) or low.is_less(0) or Fraction(1).is_less(high))
        if program.names == (name,) and book.state(name) == ("unsure",):
            self.assertTrue(is_between_paper(program, ("between", (), ((name, low, high),))))
        elif book.state(name) != ("unsure",):
            self.assertEqual((low, high), (1, 1))

    def test_drawn_lines(self):
        kinds = {}
        for _ in range(70):
            book = Book()
            shell = Shell(book)
            log = []
            for _ in range(40):
                line = drawn_line(self.draw)
                word = line.split(" ")[0]
                model = book.twin()
                before = book.twin()
                try:
                    expected = plain_answer(model, line)
                except (ValueError, LookupError) as error:
                    raised(type(error), shell.run, line)
                    self.assertTrue(book == before and book.steps == before.steps and book.watched == before.watched)
                    kinds.setdefault(word, [0, 0])[1] += 1
                else:
                    answer = shell(line) if self.draw.random() < 0.5 else shell.run(line)
                    kinds.setdefault(word, [0, 0])[0] += 1
                    if expected is None:
                        self.check_answer(book, line, answer)
                    else:
                        self.assertEqual(answer, expected, line)
                    if word in ("set", "drop", "rename", "price", "undo", "redo", "watch", "unwatch"):
                        log.append(line)
                    self.assertTrue(book == model and book.steps == model.steps and book.watched == model.watched)
                self.assertEqual((shell.log, len(shell), shell.names, bool(shell)), (tuple(log), len(log), book.names, bool(log)))
                self.assertEqual(str(shell), f"shell of {len(book)} procedures, {len(log)} lines")
            again = Shell()
            list(again.run_all(shell.log))
            self.assertTrue(again.shown() == book and again.log == shell.log)
        for word, (done, refused) in kinds.items():
            self.assertGreater(done, 10, word)
            self.assertTrue(refused > 10 or word in ("names", "price", "watch"), word)
        self.assertEqual(len(kinds), 15)

    def test_lines_that_are_nearly_commands(self):
        rights = ("set x [1: | 1: !a x x]", "set x", "drop x", "rename x y", "price a 5", "price a 99", "undo 1", "redo 9999", "watch x", "unwatch x", "names", "show x", "state x",
                  "spread x", "chance x 3", "chance x 40", "paper x", "stops x", "set yy ~ {1/1:}")
        pieces = ("", " ", "  ", "x", "0", "00", "1", "01", "-1", "100", "10000", "41", "set", "names", "\n", "\t", "~", "X", "abcdefghi", "+", ".", "None")
        commands = others = 0
        for right in rights:
            words = right.split(" ")
            lines = {right, right + " ", " " + right, right + "\n", "\n" + right, right.upper(), right.replace(" ", "  "), right.replace(" ", "\n"), right.replace(" ", "\t")}
            for at in range(len(words) + 1):
                lines.add(" ".join(words[:at] + words[at + 1:]))
                lines.add(" ".join(words[:at] + words[at:at + 1] * 2 + words[at + 1:]))
                lines.add(" ".join(words[:at] + words[at:at + 2][::-1] + words[at + 2:]))
                for piece in pieces:
                    lines.add(" ".join(words[:at] + [piece] + words[at:]))
                    lines.add(" ".join(words[:at] + [piece] + words[at + 1:]))
            for line in sorted(lines):
                shell = Shell()
                shell.run("set x [2: | 1: !a x x]")
                is_command = COMMAND.fullmatch(line) is not None and "\n" not in line
                try:
                    shell.run(line)
                except InvalidCommand:
                    self.assertFalse(is_command, repr(line))
                    others += 1
                    continue
                except (ValueError, LookupError):
                    pass
                self.assertTrue(is_command, repr(line))
                commands += 1
        self.assertGreater(commands, 200)
        self.assertGreater(others, 1000)


class ShellTest(unittest.TestCase):
    def shell_of(self, program, **prices):
        book = Book()
        book.do_all(tuple(("set", name, body) for name, body in program.bodies.items()) + tuple(("price", *pair) for pair in prices.items()))
        return Shell(book)

    def test_each_command(self):
        shell = Shell()
        for line, answer in (
                ("names", "none"), ("watch x", "1"), ("watch nobody", "2"), ("price a 1", "ok"), ("set y", "ok"), ("set x [1: | 1: !a x x]", "x: none to endless"),
                ("names", "x y"), ("show x", "x = [1: | 1: !a x x]"), ("show y", "y ="), ("state x", "endless"), ("state y", "finite 0"), ("spread y", "0"), ("stops x", "-"),
                ("paper x", "sure: x 1"), ("chance x 40", "1 to 1"), ("set x [3: | 2: !a x] y", "x: endless to finite 2/3"), ("state x", "finite 2/3"), ("spread x", "10/9"),
                ("price a 3", "x: finite 2/3 to finite 2"), ("spread x", "10"), ("set y ~", "x: finite 2 to unsure"), ("state x", "unsure"), ("stops x", "y"), ("stops y", "none"),
                ("chance y 1", "0 to 0"), ("chance x 9", "0 to 0"), ("paper y", "unsure: y 0"), ("undo 3", "x: unsure to endless"), ("redo 1", "x: endless to finite 2/3"),
                ("redo 1", "x: finite 2/3 to finite 2"),
                ("undo 0", "ok"), ("redo 0", "ok"), ("rename x w", "x: finite 2 to none"), ("show w", "w = [3: | 2: !a w] y"), ("watch w", "3"), ("drop w", "w: finite 2 to none"),
                ("unwatch x", "2"), ("undo 1", "w: none to finite 2"), ("names", "w y"), ("unwatch nobody", "1"), ("price zz 99", "ok"), ("price zz 0", "ok"),
        ):
            self.assertEqual(shell.run(line), answer, line)
        self.assertEqual((len(shell), shell.log[:3], shell.log[-1], shell.names, str(shell)),
                         (21, ("watch x", "watch nobody", "price a 1"), "price zz 0", ("w", "y"), "shell of 2 procedures, 21 lines"))

    def test_news_of_several(self):
        shell = self.shell_of(TURNS, a=1)
        for name in "zyx":
            shell.run(f"watch {name}")
        self.assertEqual(shell("price a 6"), "x: finite 1/3 to finite 2, y: finite 2/3 to finite 4")
        self.assertEqual(shell("set y ~"), "x: finite 2 to unsure, y: finite 4 to unsure")
        self.assertEqual(shell("set z x"), "z: none to unsure")
        self.assertEqual(shell("set y"), "x: unsure to finite 0, y: unsure to finite 0, z: unsure to finite 0")

    def test_stops(self):
        shell = Shell()
        list(shell.run_all(THREE))
        self.assertEqual([shell(f"stops {name}") for name in "xyz"], ["y, z", "x, z", "x, y"])
        shell("set x y z")
        shell("set y [1: | 2: y y]")
        shell("set z ~")
        self.assertEqual([shell(f"stops {name}") for name in "xyz"], ["y + z", "none", "none"])
        self.assertEqual(self.shell_of(LEAKS).run("stops x"), "z")

    def test_chances(self):
        shell = self.shell_of(GROWS)
        for digits in (1, 2, 10, 39, 40):
            low, _, high = shell(f"chance x {digits}").partition(" to ")
            self.assertTrue(is_between_paper(GROWS, ("between", (), (("x", parse_fraction(low), parse_fraction(high)),))))
            self.assertFalse(Fraction(1, 10 ** digits).is_less(parse_fraction(high) - parse_fraction(low)))
        for line in ("chance x 0", "chance x 41", "chance x 01", "chance x", "chance x 1 1", "chance x -1", "chance y 41"):
            raised(InvalidCommand, shell, line)

    def test_the_order_of_errors(self):
        shell = self.shell_of(PAIRS)
        for error, lines in (
                (InvalidCommand, ("", " ", "x", "set", "set X", "set x ", "set x  ~", "set x < |  | >", "set x ~ ", "set  x ~", "set x\n~", "set x ~\n", "Set x", "drop", "drop x x",
                                  "rename x", "rename x y z", "price a", "price a 100", "price a 007", "undo", "undo x", "undo 10000", "undo 01", "undo -1", "redo +1", "names x",
                                  "show", "state x y", "spread", "paper", "stops", "watch", "watch X", "unwatch 1", "undo " + "9" * 5000, "price a " + "0" * 5000, "exit", "help")),
                (ParseError, ("set x [", "set y Y", "set y [1: | 1:x]", "set y [01: | 1:]", "set y [1:]", "set y x ! a", "set y none-", "set x {1/1}", "set x " + "x " * 60 + "x")),
                (InvalidProgram, ("set y nobody", "set x nobody !a", "set y < | >", "set x " + "x " * 59 + "y")),
                (InvalidEdit, ("drop y", "rename y z", "rename x x")), (NothingToUndo, ("undo 2", "redo 1", "undo 9999")), (InvalidOperation, ("unwatch x", "unwatch nobody")),
                (UnknownName, ("show y", "state y", "spread y", "chance y 40", "paper y", "stops y")),
        ):
            for line in lines:
                raised(error, shell.run, line)
                raised(error, shell, line)
        self.assertEqual((shell.log, len(shell), bool(shell)), ((), 0, False))
        self.assertEqual(raised(UnknownName, shell.run, "paper nobody").name, "nobody")
        self.assertEqual(raised(NothingToUndo, shell.run, "redo 77").many, 77)
        empty = Shell()
        for line in ("show x", "state x", "spread x", "chance x 1", "paper x", "stops x"):
            self.assertEqual(raised(UnknownName, empty.run, line).name, "x")

    def test_spreads_that_are_refused(self):
        raised(InvalidOperation, self.shell_of(PAIRS, a=1).run, "spread x")
        raised(InvalidOperation, self.shell_of(GROWS).run, "spread x")
        self.assertEqual(self.shell_of(PAIRS).run("spread x"), "0")
        self.assertEqual(self.shell_of(TURNS, a=1).run("spread x"), "14/27")

    def test_values_that_are_no_lines(self):
        shell = self.shell_of(PAIRS)
        for value in strange_but(lambda value: False):
            raised(InvalidCommand, shell.run, value)
            raised(InvalidCommand, shell, value)
        for value in strange_but(lambda value: value is None or isinstance(value, Book)) + [Shell(), "book", [Book()]]:
            raised(InvalidOperation, Shell, value)
            raised(InvalidOperation, lambda: Shell(book=value))

    def test_run_all_does_lines_one_by_one(self):
        book = Book()
        shell = Shell(book)
        answers = shell.run_all(("watch x", "set x", "drop y", "drop x"))
        self.assertEqual(book.watched, ())
        self.assertEqual((next(answers), book.names), ("1", ()))
        self.assertEqual((next(answers), book.names), ("x: none to finite 0", ("x",)))
        raised(InvalidEdit, next, answers)
        self.assertEqual((list(answers), shell.log), ([], ("watch x", "set x")))
        for value in STRANGE + (["names"], "names", None):
            if type(value) is not tuple:
                raised(InvalidOperation, next, shell.run_all(value))
        self.assertEqual(list(shell.run_all(())), [])
        raised(InvalidCommand, list, shell.run_all(("names", None)))

    def test_a_book_that_is_passed(self):
        book = Book()
        shell = Shell(book)
        book.do(("set", "x", ()))
        self.assertEqual((shell.names, len(shell), shell("names")), (("x",), 0, "x"))
        shell("set y x")
        self.assertEqual((book.names, book.steps), (("x", "y"), 2))
        shown = shell.shown()
        self.assertTrue(shown == book and shown is not book)
        shown.do(("drop", "y"))
        self.assertEqual((book.names, shown.names, shown.undo(many=2)), (("x", "y"), ("x",), 1))
        other = Shell(book=book)
        self.assertEqual((other("undo 2"), shell.names, other.log, shell.log), ("ok", (), ("undo 2",), ("set y x",)))
        first, second = Shell(), Shell()
        first("set x")
        self.assertEqual(second.names, ())
        raised(TypeError, iter, first)
        self.assertEqual(Shell(None).names, ())


if __name__ == "__main__":
    unittest.main()

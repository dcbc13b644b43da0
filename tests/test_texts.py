import random
import unittest

from helpers import GROWS, LEAKS, PAIRS, PICKS, STRANGE, TURNS, drawn_body, drawn_program, raised
from surelyends.errors import InvalidProgram, ParseError, UnknownName
from surelyends.programs.programs import Program, is_body
from surelyends.programs.texts import body_text, line_text, program_text, read_body, read_program

NOTE = ("note", "a")


def plain_text(body):
    """The text of a body as [4.1] tells it, written out once more."""
    texts = []
    for word, *parts in body:
        if word == "toss":
            branches = []
            for weight, inner in parts:
                branches.append(f"{weight}:{' ' if inner else ''}{plain_text(inner)}")
            texts.append(f"[{' | '.join(branches)}]")
        elif word == "again":
            stop, go, inner = parts
            texts.append("{" + f"{stop}/{go}:" + (" " if inner else "") + plain_text(inner) + "}")
        elif word == "choose":
            texts.append(f"<{' | '.join(plain_text(inner) for inner in parts)}>")
        else:
            texts.append({"stay": "~", "note": "!", "call": ""}[word] + "".join(parts))
    return " ".join(texts)


def plain_program_text(program):
    lines = []
    for name in sorted(program.bodies):
        lines.append(f"{name} ={' ' if program[name] else ''}{plain_text(program[name])}")
    return "\n".join(lines)


class BodyTextTest(unittest.TestCase):
    def setUp(self):
        self.draw = random.Random(53)

    def assert_text(self, body, text):
        self.assertEqual(body_text(body), text)
        self.assertEqual(read_body(text), body)

    def test_each_sort(self):
        self.assert_text((), "")
        self.assert_text((NOTE,), "!a")
        self.assert_text((("call", "abcdefgh"),), "abcdefgh")
        self.assert_text((("stay",), ("stay",)), "~ ~")
        self.assert_text((("toss", (1, ()), (99, ())),), "[1: | 99:]")
        self.assert_text((("toss", (1, (NOTE,)), (2, ()), (10, (("stay",), NOTE))),), "[1: !a | 2: | 10: ~ !a]")
        self.assert_text((("toss", (1, ()), (2, ()), (3, ()), (4, (NOTE,))),), "[1: | 2: | 3: | 4: !a]")
        self.assert_text((("again", 1, 99, ()), NOTE), "{1/99:} !a")
        self.assert_text((("again", 10, 9, (NOTE, ("call", "x"))),), "{10/9: !a x}")
        self.assert_text((("choose", (), ()),), "< | >")
        self.assert_text((("choose", (), (), ()),), "< |  | >")
        self.assert_text((("choose", (), (("call", "x"),)),), "< | x>")
        self.assert_text((("choose", (("call", "x"),), (), (("stay",),)),), "<x |  | ~>")
        self.assert_text((("choose", (("choose", (), ()),), (("again", 1, 1, ()),)),), "<< | > | {1/1:}>")

    def test_each_body_has_one_text(self):
        texts = {}
        for _ in range(600):
            body = drawn_body(self.draw, ("x", "y", "abcdefgh"), self.draw.randint(0, 4), 3, closed=False)
            if not is_body(body):
                raised(InvalidProgram, body_text, body)
                raised(ParseError, read_body, plain_text(body))
                continue
            text = body_text(body)
            self.assertEqual(text, plain_text(body))
            self.assertEqual(read_body(text), body)
            self.assertEqual(texts.setdefault(text, body), body)

    def bent_texts(self, text, signs):
        """Texts with a sign or a piece put in, left out, exchanged or doubled."""
        for _ in range(40):
            at = self.draw.randint(0, len(text))
            until = self.draw.randint(at, min(len(text), at + 4))
            sort = self.draw.random()
            if sort < 0.4:
                yield text[:at] + self.draw.choice(signs) + text[at:]
            elif sort < 0.6:
                yield text[:at] + text[until:]
            elif sort < 0.8:
                yield text[:at] + self.draw.choice(signs) + text[at + 1:]
            else:
                yield text[:until] + text[at:]

    def test_bent_texts(self):
        signs = list(" !~[]{}<>|:/=019ax\n\r-_\"(),.A") + [" | ", "  ", "1:", " x", "!", "00", "100", "< | >", "1/1:"]
        read = refused = 0
        for _ in range(300):
            body = drawn_body(self.draw, ("x", "y"), self.draw.randint(0, 4), 2, closed=False)
            if not is_body(body):
                continue
            for text in self.bent_texts(body_text(body), signs):
                try:
                    found = read_body(text)
                except ParseError:
                    refused += 1
                    continue
                read += 1
                # What is read is read exactly: there is just one body with this text.
                self.assertTrue(is_body(found))
                self.assertEqual(plain_text(found), text)
        self.assertGreater(read, 300)
        self.assertGreater(refused, 3000)

    def test_what_is_no_text(self):
        for text in (" ", "  ", " x", "x ", "x  y", "x\ny", "x\n", "\nx", "! a", "!", "!!a", "!A", "!abcdefghi", "abcdefghi",
                     "a1", "1", "1:", "~~", "~x", "x~", "x!a", "!a!b", "-", "X", "x y z A", "x_y", "x.",
                     "[]", "[1:]", "[1: x]", "[1:|2:]", "[1: |2:]", "[1:| 2:]", "[1:  | 2:]", "[ 1: | 2:]",
                     "[1: | 2: ]", "[1: | 2:] ", "[1:x | 2:]", "[1 : | 2:]", "[1: | 2:", "1: | 2:]", "[0: | 1:]",
                     "[1: | 100:]", "[01: | 1:]", "[1: | 007:]", "[: | 1:]", "[-1: | 1:]", "[+1: | 1:]", "[1: | 2: | ]",
                     "[1: | 2: | 3: | 4: | 5:]", "[1: | | 2:]", "[1: || 2:]", "[1/1: | 2:]", "[a: | 1:]", "[1: | 2:}",
                     "[1: | 2:>", "{}", "{1:}", "{1/:}", "{/1:}", "{1/1}", "{1/1: }", "{1/1:x}", "{1/1 :}", "{1/0:}",
                     "{0/1:}", "{1/100:}", "{100/1:}", "{01/1:}", "{1/01:}", "{1 / 1:}", "{1/1: | }", "{1/1:]", "{1/1:",
                     "{1/1/1:}", "{1/1: x | y}", "<>", "<x>", "< >", "<|>", "< |>", "<| >", "<  |  >", "<x|y>", "<x | y",
                     "x | y>", "x | y", "|", " | ", "< | | >", "< |  |  | >", "<x | y]", "<1: | 2:>", "< x | y>",
                     "<x | y >", "9" * 5000, "[" * 5000, "[" + "1" * 5000 + ": | 1:]", "{1/1: " * 5000 + "}" * 5000,
                     "x " * 5000 + "x", "a" * 5000, "!" * 5000, " " * 5000):
            raised(ParseError, read_body, text)

    def test_other_values(self):
        for value in STRANGE:
            if value not in ("", "x", "x y", "~"):
                raised(ParseError, read_body, value)
            if not is_body(value):
                raised(InvalidProgram, body_text, value)
            else:
                self.assertEqual(read_body(body_text(value)), value)

    def test_limits_of_depth_and_statements(self):
        text, body = "", ()
        for depth in range(1, 7):
            gap = " " + text if text or depth % 3 == 2 else ""
            text = ("{1/1:" + gap + "}", "[1: | 2:" + gap + "]", "< |" + gap + ">")[depth % 3]
            body = ((("again", 1, 1, body),), (("toss", (1, ()), (2, body)),), (("choose", (), body),))[depth % 3]
            if depth <= 4:
                self.assert_text(body, text)
            else:
                raised(ParseError, read_body, text)
                raised(InvalidProgram, body_text, body)
        self.assert_text((NOTE,) * 60, " ".join(["!a"] * 60))
        raised(ParseError, read_body, " ".join(["!a"] * 61))
        raised(InvalidProgram, body_text, (NOTE,) * 61)
        self.assert_text((("again", 1, 1, (("stay",),) * 59),), "{1/1: " + " ".join(["~"] * 59) + "}")
        raised(ParseError, read_body, "{1/1: " + " ".join(["~"] * 60) + "}")

    def test_weights_and_letters(self):
        for weight in range(1, 100):
            self.assert_text((("toss", (weight, ()), (1, ())),), f"[{weight}: | 1:]")
            self.assert_text((("again", 1, weight, ()),), "{1/" + str(weight) + ":}")
        for weight in (0, 100, 101, 999):
            raised(ParseError, read_body, f"[{weight}: | 1:]")
            raised(ParseError, read_body, "{1/" + str(weight) + ":}")
        for many in range(1, 9):
            self.assert_text((("call", "z" * many), ("note", "b" * many)), "z" * many + " !" + "b" * many)


class ProgramTextTest(unittest.TestCase):
    def setUp(self):
        self.draw = random.Random(59)

    def test_each_program_has_one_text(self):
        for _ in range(300):
            program = drawn_program(self.draw, closed=False)
            text = program_text(program)
            self.assertEqual(text, plain_program_text(program))
            self.assertTrue(read_program(text) == program)
            lines = text.split("\n")
            self.assertEqual(lines, [line_text(program, name) for name in program.names])
            for line in lines:
                name, _, rest = line.partition(" =")
                self.assertEqual(read_body(rest[1:]), program[name])

    def test_bent_lines(self):
        for _ in range(200):
            program = drawn_program(self.draw, closed=False)
            lines = program_text(program).split("\n")
            shuffled = list(lines)
            self.draw.shuffle(shuffled)
            at = self.draw.randrange(len(lines))
            bent = [shuffled, lines + [lines[at]], lines[:at] + [lines[at]] + lines[at:], lines[:at] + lines[at + 1:],
                    lines + [""], [""] + lines, lines[:at] + [""] + lines[at:], lines[:at] + ["x" + lines[at]] + lines[at + 1:],
                    lines[:at] + [lines[at] + " "] + lines[at + 1:], lines[:at] + [" " + lines[at]] + lines[at + 1:],
                    lines[:at] + [lines[at].replace(" = ", " =")] + lines[at + 1:], [line + "\r" for line in lines],
                    lines[:at] + [lines[at].replace(" =", "=")] + lines[at + 1:], lines + ["zz ="], lines + ["zz = zzz"]]
            for some in bent:
                self.assert_exact("\n".join(some))
            self.assert_exact("\n\n".join(lines))
            self.assert_exact("\r\n".join(lines))

    def assert_exact(self, text):
        try:
            program = read_program(text)
        except ParseError:
            return
        self.assertEqual(plain_program_text(program), text)

    def test_bent_signs(self):
        signs = list(" !~[]{}<>|:/=01xyz\n\rA") + [" = ", "\nx =", " =", "  ", "self"]
        bent_texts = BodyTextTest.bent_texts
        for _ in range(200):
            program = drawn_program(self.draw, closed=False, most=2)
            for text in bent_texts(self, program_text(program), signs):
                self.assert_exact(text)

    def test_what_is_no_text(self):
        for text in ("", " ", "\n", "x", "=", " =", "x=", "x= ", "x  =", "x = ", "x =\n", "\nx =", "x =\n\ny =", "y =\nx =",
                     "x =\nx =", "x = y", "x =\ny = z", "X =", "x1 =", "abcdefghi =", "x y =", "x = = ", "x = x =",
                     "x == x", "x =x", " x =", "x\t=", "x = !A", "x = [1:]", "x =\r\ny =", "x : x", "x = x\n y = x",
                     "x = {1/1: x\ny =}", "a =\nb =\nc =\nd =\ne =\nf =\ng =\nh =\ni =", "x = " + "!a " * 60 + "!a",
                     "x = " + " ".join(["x"] * 31) + "\ny = " + " ".join(["x"] * 30)):
            raised(ParseError, read_program, text)

    def test_limits(self):
        eight = "a =\nb =\nc =\nd =\ne =\nf =\ng =\nh ="
        self.assertEqual(program_text(read_program(eight)), eight)
        sixty = "x = " + " ".join(["x"] * 30) + "\ny = " + " ".join(["x"] * 30)
        self.assertEqual(program_text(read_program(sixty)), sixty)
        self.assertTrue(read_program("self = self").bodies == {"self": (("call", "self"),)})

    def test_other_values(self):
        for value in STRANGE:
            raised(ParseError, read_program, value)
            if not isinstance(value, Program):
                raised(InvalidProgram, program_text, value)
                raised(InvalidProgram, line_text, value, "x")
                raised(InvalidProgram, line_text, value, None)
            if value != "x":
                self.assertIs(raised(UnknownName, line_text, PICKS, value).name, value)

    def test_known_programs(self):
        for program, text in ((PAIRS, "x = [1: | 1: !a x x]"), (GROWS, "x = [1: | 2: x x]"),
                              (TURNS, "x = [3: | 1: y y]\ny = [1: !a | 1: x]"),
                              (LEAKS, "x = [1: !a | 1: x z]\nz = [9: | 1: ~]"),
                              (PICKS, "x = [1: | 1: <!a x | x x>]")):
            self.assertEqual(program_text(program), text)
        self.assertEqual(line_text(LEAKS, "z"), "z = [9: | 1: ~]")
        self.assertEqual(line_text(read_program("x = y\ny ="), "y"), "y =")


if __name__ == "__main__":
    unittest.main()

import math
import random
import re
import unittest

import plain
from helpers import GROWS, PAIRS, STRANGE, TURNS, drawn_program, drawn_small_program, is_integer, raised
from order import strange_but
from surelyends.errors import InvalidFraction, InvalidOperation, InvalidValues, ParseError
from surelyends.means.endless import mean_paper
from surelyends.numbers.fractions import Fraction
from surelyends.papers.bounds import between_paper
from surelyends.papers.sure import sure_paper
from surelyends.papers.verdicts import paper_of, sure_procedures, unsure_paper
from surelyends.text.formats import format_fraction, format_paper, format_values, is_shown, parse_fraction, parse_paper, parse_values

WIDTHS = {"sure": 1, "unsure": 1, "endless": 1, "finite": 2, "between": 2}


# The texts once more, by patterns.

def is_fraction_text(text):
    found = re.fullmatch(r"(-?)(0|[1-9][0-9]*)(?:/([1-9][0-9]*))?", text)
    if not found or max(map(len, text.lstrip("-").split("/"))) > 4000 or text == "-0":
        return False
    return found[3] is None or found[3] != "1" and found[2] != "0" and math.gcd(int(found[2]), int(found[3])) == 1


def row_names(text, width):
    """The names of some rows, or None if this is no text of rows."""
    if text == "none":
        return []
    names = []
    for row in text.split(", "):
        name, *fractions = row.split(" ")
        if not re.fullmatch(r"[a-z]{1,8}", name) or len(fractions) != width or not all(map(is_fraction_text, fractions)):
            return None
        names.append(name)
    return names if names == sorted(set(names)) else None


def is_layers_text(text):
    if text == "none":
        return True
    layers = [row_names(layer, 1) for layer in text.split(" | ")]
    names = sum((layer or [None, None] for layer in layers), start=[])
    return len(set(names)) == len(names)


def is_paper_text(text):
    word, _, rest = text.partition(": ")
    if word == "sure":
        return ": " in text and is_layers_text(rest)
    if word == "between":
        layers, sign, rows = rest.partition("; ")
        return sign == "; " and is_layers_text(layers) and row_names(rows, 2) is not None
    return word in WIDTHS and ": " in text and row_names(rest, WIDTHS[word]) is not None


# Shown papers once more

def are_rows(value, width):
    rows = plain.rows_of(value, width)
    return rows is not None and all(re.fullmatch(r"[a-z]{1,8}", name) and "\n" not in name for name in rows)


def are_layers(value):
    if type(value) is not tuple or not all(are_rows(layer, 1) and layer for layer in value):
        return False
    names = [row[0] for layer in value for row in layer]
    return len(set(names)) == len(names)


def is_plain_shown(value):
    if plain.is_told(value, "between", 3):
        return are_layers(value[1]) and are_rows(value[2], 2)
    if plain.is_told(value, "sure", 2):
        return are_layers(value[1])
    return any(plain.is_told(value, word, 2) and are_rows(value[1], WIDTHS[word]) for word in ("unsure", "endless", "finite"))


def fractions_in(value):
    if type(value) is tuple:
        return [one for part in value for one in fractions_in(part)]
    return [value] if type(value) is Fraction or is_integer(value) else []


def drawn_fraction(draw):
    return draw.choice((Fraction(draw.randint(-9, 9), draw.randint(1, 9)), draw.randint(-20, 20), Fraction(draw.randint(0, 10 ** 40), draw.randint(1, 10 ** 40))))


def drawn_rows(draw, names, width):
    return tuple((name, *(drawn_fraction(draw) for _ in range(width))) for name in sorted(names))


def drawn_paper(draw):
    names = draw.sample(("a", "b", "none", "sure", "x", "y", "abcdefgh", "zz"), draw.randint(0, 6))
    layers, left = [], list(names)
    while left:
        many = draw.randint(1, len(left))
        layers.append(drawn_rows(draw, left[:many], 1))
        left = left[many:]
    word = draw.choice(tuple(WIDTHS))
    if word == "sure":
        return ("sure", tuple(layers))
    if word == "between":
        return ("between", tuple(layers), drawn_rows(draw, draw.sample(("a", "x", "y"), draw.randint(0, 3)), 2))
    return (word, drawn_rows(draw, names, WIDTHS[word]))


def bent_texts(draw, text, many):
    """Texts with a sign or a piece left out, put in or exchanged."""
    pieces = re.findall(r"[a-z]+|[0-9]+|[^a-z0-9]", text)
    for _ in range(many):
        parts = draw.choice((pieces, list(text)))
        at = draw.randrange(len(parts) + 1)
        other = draw.choice(("0", "1", "2", "-", "/", " ", ", ", " | ", "; ", ":", ": ", "none", "x", "y", "sure", "a", "+", "\n", "x 1", "00", "1/2", ".", "~"))
        sort = draw.random()
        if sort < 0.3:
            yield "".join(parts[:at] + parts[at + 1:])
        elif sort < 0.6:
            yield "".join(parts[:at] + [other] + parts[at:])
        elif sort < 0.9:
            yield "".join(parts[:at] + [other] + parts[at + 1:])
        else:
            yield "".join(parts[:at] + parts[at:at + 2][::-1] + parts[at + 2:])


class FractionTextsTest(unittest.TestCase):
    def setUp(self):
        self.draw = random.Random(211)

    def test_there_and_back(self):
        for _ in range(500):
            value = drawn_fraction(self.draw)
            text = format_fraction(value)
            self.assertEqual(text, str(Fraction(1) * value))
            self.assertTrue(is_fraction_text(text), text)
            found = parse_fraction(text)
            self.assertIs(type(found), Fraction)
            self.assertEqual(found, value)

    def test_known_texts(self):
        for value, text in ((0, "0"), (7, "7"), (-7, "-7"), (Fraction(6, 4), "3/2"), (Fraction(-6, 4), "-3/2"), (Fraction(6, 3), "2"), (Fraction(0, 5), "0"),
                            (Fraction(1, 10 ** 20), "1/" + "1" + "0" * 20)):
            self.assertEqual(format_fraction(value), text)
            self.assertEqual(parse_fraction(text), value)

    def test_what_is_no_text(self):
        texts = ("", " ", "-", "/", "1/", "/2", "-/2", "2/4", "3/1", "0/1", "0/5", "-0", "00", "01", "1/02", "01/2", "+1", "1/-2", "-1/-2", "--1", "1/2/3", "1 /2", "1/ 2",
                 " 1", "1 ", "1\n", "\n1", "1.5", "1e3", "1_0", "x", "1/0", "0/0", "-1/0", "half", "1//2", "1/1", "-1/1", "6/3", "1,2", "~", "- 1", "1/2 ", "1|2")
        for text in texts:
            self.assertFalse(is_fraction_text(text))
            raised(ParseError, parse_fraction, text)
        for value in strange_but(lambda value: value == "1" and type(value) is str):
            raised(ParseError, parse_fraction, value)
        for value in strange_but(lambda value: type(value) is Fraction or is_integer(value)) + ["1/2", (1, 2), [1], True]:
            raised(InvalidFraction, format_fraction, value)

    def test_bent_texts(self):
        read = refused = 0
        for _ in range(150):
            text = format_fraction(drawn_fraction(self.draw))
            for bent in bent_texts(self.draw, text, 20):
                if is_fraction_text(bent):
                    self.assertEqual(format_fraction(parse_fraction(bent)), bent)
                    read += 1
                else:
                    raised(ParseError, parse_fraction, bent)
                    refused += 1
        self.assertGreater(read, 300)
        self.assertGreater(refused, 1000)

    def test_long_integers(self):
        for digits in ("1" * 4000, "9" * 4000, "-" + "7" * 4000, "1/" + "3" * 3999 + "4", "3" * 4000 + "/" + "2" + "0" * 3999):
            self.assertEqual(format_fraction(parse_fraction(digits)), digits)
            self.assertEqual(parse_values(f"x {digits}")["x"], parse_fraction(digits))
            self.assertEqual(format_paper(parse_paper(f"sure: x {digits}")), f"sure: x {digits}")
        for digits in ("1" * 4001, "-" + "1" * 4001, "1/" + "3" * 4001, "3" * 4001 + "/" + "2", "1" * 5000, "1/" + "1" * 100000, "0" * 5000, "-" + "2" * 99999):
            raised(ParseError, parse_fraction, digits)
            raised(ParseError, parse_values, f"x {digits}")
            raised(ParseError, parse_paper, f"unsure: x {digits}")
        value = Fraction(10 ** 3999, 7)
        self.assertEqual(parse_fraction(format_fraction(value)), value)


class ValuesTextsTest(unittest.TestCase):
    def setUp(self):
        self.draw = random.Random(212)

    def test_there_and_back(self):
        for _ in range(200):
            names = self.draw.sample(("a", "b", "none", "x", "y", "abcdefgh", "zz"), self.draw.randint(0, 7))
            rows = {name: drawn_fraction(self.draw) for name in names}
            kept = list(rows.items())
            text = format_values(rows)
            self.assertEqual(list(rows.items()), kept)
            self.assertEqual(text, ", ".join(f"{name} {format_fraction(rows[name])}" for name in sorted(rows)) or "none")
            found = parse_values(text)
            self.assertEqual(found, rows)
            self.assertEqual(list(found), sorted(rows))
            self.assertTrue(all(type(one) is Fraction for one in found.values()))

    def test_bent_texts(self):
        read = refused = 0
        for _ in range(150):
            names = self.draw.sample(("a", "none", "x", "y"), self.draw.randint(0, 3))
            text = format_values({name: drawn_fraction(self.draw) for name in names})
            for bent in bent_texts(self.draw, text, 20):
                if row_names(bent, 1) is not None:
                    self.assertEqual(format_values(parse_values(bent)), bent)
                    read += 1
                else:
                    raised(ParseError, parse_values, bent)
                    refused += 1
        self.assertGreater(read, 200)
        self.assertGreater(refused, 1000)

    def test_what_is_none(self):
        for text in ("", " ", "x", "x ", "x 1,", "x 1,y 2", "x 1 , y 2", "x  1", "x 1  ", " x 1", "x 1, x 2", "y 1, x 2", "x 2/4", "x 1 2", "X 1", "x 1\n", "none ", "None",
                     "none, x 1", "x 1, none", "abcdefghi 1", "x 1 | y 2", "x 1; y 2", "x: 1", "1 x", "1", "x -0"):
            self.assertIsNone(row_names(text, 1))
            raised(ParseError, parse_values, text)
        self.assertEqual(parse_values("none 1, x 2"), {"none": 1, "x": 2})
        for value in strange_but(lambda value: False):
            raised(ParseError, parse_values, value)

    def test_errors_of_dicts(self):
        def is_right(value):
            return type(value) is dict and all(type(name) is str and re.fullmatch("[a-z]{1,8}", name) and (is_integer(one) or type(one) is Fraction)
                                               for name, one in value.items())
        for value in strange_but(is_right) + [{"X": 1}, {"": 1}, {"abcdefghi": 1}, {"x": True}, {"x": None}, {"x": "1"}, {1: 1}, {"x": 1, "y": (1,)}, {"x y": 1}, (("x", 1),)]:
            raised(InvalidValues, format_values, value)
        self.assertEqual(format_values({"x": -1, "self": Fraction(3, 9)}), "self 1/3, x -1")


class PaperTextsTest(unittest.TestCase):
    def setUp(self):
        self.draw = random.Random(213)

    def check(self, paper):
        self.assertIs(is_shown(paper), True)
        text = format_paper(paper)
        self.assertTrue(is_paper_text(text), text)
        found = parse_paper(text)
        self.assertEqual(found, paper)
        self.assertIs(is_shown(found), True)
        self.assertTrue(all(type(one) is Fraction for one in fractions_in(found)))
        self.assertEqual(format_paper(found), text)
        return text

    def test_drawn_papers(self):
        words = []
        for _ in range(400):
            paper = drawn_paper(self.draw)
            self.assertTrue(is_plain_shown(paper))
            self.check(paper)
            words.append(paper[0])
        for word in WIDTHS:
            self.assertGreater(words.count(word), 40)

    def test_papers_of_programs(self):
        for _ in range(60):
            program = self.draw.choice((drawn_program, drawn_small_program))(self.draw)
            self.check(between_paper(program, Fraction(1, 1000)))
            for name in program.names:
                self.check(paper_of(program, name))
                for paper in (sure_paper(program, name), unsure_paper(program, name)):
                    if paper is not None:
                        self.check(paper)
            for name in sure_procedures(program):
                self.check(mean_paper(program, name, {"a": 3, "b": 1}))

    def test_known_texts(self):
        half = Fraction(1, 2)
        for paper, text in (
                (("sure", ()), "sure: none"), (("unsure", ()), "unsure: none"), (("endless", ()), "endless: none"), (("finite", ()), "finite: none"),
                (("between", (), ()), "between: none; none"), (("sure", ((("y", 1),), (("x", 1), ("z", 2)))), "sure: y 1 | x 1, z 2"),
                (("between", (), (("x", Fraction(1, 3), half),)), "between: none; x 1/3 1/2"), (("between", ((("x", 1),),), ()), "between: x 1; none"),
                (("between", ((("b", -1),), (("a", half),)), (("a", 1, 1), ("b", 0, 1))), "between: b -1 | a 1/2; a 1 1, b 0 1"),
                (("unsure", (("none", half),)), "unsure: none 1/2"), (("finite", (("x", 1, half), ("y", 0, 3))), "finite: x 1 1/2, y 0 3"),
                (("sure", ((("none", 1),), (("sure", 2),))), "sure: none 1 | sure 2"), (("endless", (("x", 7),)), "endless: x 7"),
        ):
            self.assertEqual(self.check(paper), text)

    def test_what_is_none(self):
        for text in ("", "sure", "sure:", "sure: ", "sure:none", "sure none", " sure: none", "sure: none ", "Sure: none", "sure:  none", "sure: x", "sure: x 1 |", "sure: x 1 | none",
                     "sure: none | x 1", "sure: x 1 | x 1", "sure: x 1, x 2", "sure: y 1, x 1", "sure: x 1|y 1", "sure: x 1 | y 1 2", "sure: x 1; y 1", "sure: x 1 || y 1",
                     "sure: x 1 |  | y 1", "unsure: x 1 | y 1", "unsure: x 1 2", "finite: x 1", "finite: x 1 2 3", "endless: x", "between: none", "between: none;none", "between: none;",
                     "between: none; ", "between: none; x 1", "between: x 1 1; none", "between: none; x 1 1; y 1 1", "between: none; none; none", "steady: x 1", "growing: none",
                     "spread: x 1 1 1", "spoilt: none", "always: none", "stop: none", "none", "none: none", "unsure: x 1/2 , y 1", "unsure: x 2/4", "unsure: X 1", "unsure: x 1\n",
                     "unsure: none, x 1", "unsure: x 1, none", "unsure: 1 x", "unsure: x 01", "unsure: x +1", ": none", "sure; none", "unsure: abcdefghi 1", "unsure:  1"):
            self.assertFalse(is_paper_text(text), text)
            raised(ParseError, parse_paper, text)
        for value in strange_but(lambda value: False):
            raised(ParseError, parse_paper, value)

    def test_bent_texts(self):
        read = refused = 0
        for _ in range(250):
            text = format_paper(drawn_paper(self.draw))
            for bent in bent_texts(self.draw, text, 25):
                if is_paper_text(bent):
                    paper = parse_paper(bent)
                    self.assertTrue(is_plain_shown(paper))
                    self.assertEqual(format_paper(paper), bent)
                    read += 1
                else:
                    raised(ParseError, parse_paper, bent)
                    refused += 1
        self.assertGreater(read, 500)
        self.assertGreater(refused, 2000)

    def test_shown_or_not(self):
        shown = hidden = 0
        for value in STRANGE:
            self.assertIs(is_shown(value), is_plain_shown(value), value)
            if not is_plain_shown(value):
                raised(InvalidOperation, format_paper, value)
        others = STRANGE[:8] + ("abcdefghi", "X", "none", ("x", 1), (("x", 1),), ((("x", 1),),), (("x", 1, 2),), "sure", "unsure", "finite", "between", "endless", "spread")
        for _ in range(40):
            for bent in plain.bent(drawn_paper(self.draw), others):
                expected = is_plain_shown(bent)
                self.assertIs(is_shown(bent), expected, bent)
                shown += expected
                hidden += not expected
                if expected:
                    self.check(bent)
                else:
                    raised(InvalidOperation, format_paper, bent)
        self.assertGreater(shown, 300)
        self.assertGreater(hidden, 3000)

    def test_whatever_program_it_belongs_to(self):
        for paper in (("sure", ((("x", -5), ("y", 0)),)), ("unsure", (("x", 7),)), ("endless", (("x", Fraction(-1, 2)),)), ("finite", (("x", -1, -1),)), ("between", (), (("x", 2, 1),))):
            self.check(paper)
        many = tuple((chr(97 + one) + chr(97 + other), 1) for one in range(26) for other in range(26))
        self.check(("unsure", many))
        self.check(("sure", (many,)))
        self.assertEqual((PAIRS.names, TURNS.names, GROWS.names), (("x",), ("x", "y"), ("x",)))


if __name__ == "__main__":
    unittest.main()

"""The examples of the document, as they stand."""

import doctest
import unittest

from surelyends.numbers import fractions, rows
from surelyends.programs import programs, texts
from surelyends.runs import runs, tosser

VALUES = r'''
>>> PAIRS = read_program("x = [1: | 1: !a x x]")
>>> GROWS = read_program("x = [1: | 2: x x]")
>>> TURNS = read_program("x = [3: | 1: y y]\ny = [1: !a | 1: x]")
>>> LEAKS = read_program("x = [1: !a | 1: x z]\nz = [9: | 1: ~]")
>>> PICKS = read_program("x = [1: | 1: <!a x | x x>]")
'''

FRACTIONS = r'''
>>> half, third = Fraction(1, 2), Fraction(-2, -6)
>>> [str(one) for one in (half + third, 1 - third, half * 4, half.by(third), third.power(3), -half, abs(Fraction(3, -4)))]
['5/6', '2/3', '2', '3/2', '1/27', '-1/2', '3/4']
>>> [third.is_less(half), half + half == 1, half == third, str(total_of((half, third, 2))), str(rounded_down(Fraction(7, 9), 4))]
[True, True, False, '17/6', '3/4']
'''

ROWS = r'''
>>> half = Fraction(1, 2)
>>> [times_of(((1, 2), (half, 0)), (4, 1)) == (6, 2), mix_of(((1, 2), (half, 0)), (1, 4)) == (3, 2)]
[True, True]
>>> [solution(((1, 2), (2, 4)), (1, 3)) == ("none", (-2, 1)), cleared(((2, 4), (0, 0))) == ((1, 2),)]
[True, True]
>>> [is_fit(((1,), (-1,)), (1, -2), ("bar", (1, 1))), fit(((1,), (-1,)), (3, -2))[0]]
[True, 'fit']
>>> [is_falling(((0, 1), (half, 0)), ("falling", (4, 3))), falling(((1, 0), (5, 0)))[0]]
[True, 'kept']
'''

PROGRAMS = r'''
>>> [TURNS["x"], calls_of(TURNS, "y"), part_at(TURNS, ("x", (0, 1))), PICKS.choices]
[(('toss', (3, ()), (1, (('call', 'y'), ('call', 'y')))),), ('x',), (('call', 'y'), ('call', 'y')), (('x', (0, 1, 0)),)]
>>> [can_end(LEAKS), is_whole(LEAKS, "z"), str(LEAKS), put_at(LEAKS, ("z", (0, 1, 0)), ("note", "a"))["z"]]
[('x', 'z'), False, 'program of 2 procedures, 6 statements', (('toss', (9, ()), (1, (('note', 'a'),))),)]
'''

TEXTS = r'''
>>> read_body("!a [1: | 2: x ~] {3/1: < | y>}")
(('note', 'a'), ('toss', (1, ()), (2, (('call', 'x'), ('stay',)))), ('again', 3, 1, (('choose', (), (('call', 'y'),)),)))
>>> [body_text(()), body_text((("again", 1, 2, ()),)), program_text(TURNS), line_text(PICKS, "x")]
['', '{1/2:}', 'x = [3: | 1: y y]\ny = [1: !a | 1: x]', 'x = [1: | 1: <!a x | x x>]']
>>> program_text(read_program("x = y\ny ="))
'x = y\ny ='
'''

TOSSER = r'''
>>> tosser = Tosser(TURNS, "x")
>>> [tosser.waits, tosser.go(1, 0), tosser.notes, tosser.depth, str(tosser.chance), tosser.go(1, 0), tosser.has_ended, tosser.deepest]
[2, 5, ('a',), 2, '1/8', 8, True, 3]
>>> [tosser.back(many=2), tosser.left, tosser.picks, tosser.waits, str(tosser)]
[6, ('call', 'x'), (1, 0, 1), 0, 'tosser of x: 6 steps, depth 2']
'''

RUNS = r'''
>>> [list(ended_runs(PAIRS, "x", 6)), is_run(PAIRS, "x", ((1, 0, 0), 6, 2, ("a",))), str(chance_of(PAIRS, "x", (1, 0)))]
[[((0,), 1, 1, ()), ((1, 0, 0), 6, 2, ('a',))], True, '1/4']
>>> [[str(one) for one in ends_after(PAIRS, "x", 6)], str(ends_by(PAIRS, "x", 60, 1)), str(ends_by(PAIRS, "x", 6, 2))]
[['0', '1/2', '0', '0', '0', '0', '1/8'], '1/2', '5/8']
'''


class ExamplesTest(unittest.TestCase):
    def known(self):
        """All functions, classes and constants of the interface, and the five values that the examples use."""
        found = {}
        for module in (fractions, rows, programs, texts, tosser, runs):
            found.update({name: value for name, value in vars(module).items() if not name.startswith("_")})
        for line in VALUES.strip().split("\n"):
            exec(line.removeprefix(">>> "), found)
        return found

    def run_examples(self, text, many):
        test = doctest.DocTestParser().get_doctest(text, self.known(), "examples", None, 0)
        self.assertEqual(len(test.examples), many)
        said = []
        runner = doctest.DocTestRunner(verbose=False)
        runner.run(test, out=said.append)
        self.assertEqual(runner.failures, 0, "".join(said))

    def test_fractions(self):
        self.run_examples(FRACTIONS, 3)

    def test_rows(self):
        self.run_examples(ROWS, 5)

    def test_programs(self):
        self.run_examples(PROGRAMS, 2)

    def test_texts(self):
        self.run_examples(TEXTS, 3)

    def test_tosser(self):
        self.run_examples(TOSSER, 3)

    def test_runs(self):
        self.run_examples(RUNS, 2)


if __name__ == "__main__":
    unittest.main()

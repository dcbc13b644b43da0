"""The examples of the document, as they stand."""

import doctest
import unittest

from surelyends.chances import knots, values, weights
from surelyends.change import edges, rewrites, stops
from surelyends.choices import choices
from surelyends.live import book
from surelyends.means import endless, means
from surelyends.numbers import fractions, rows
from surelyends.papers import bounds, sure, verdicts
from surelyends.programs import programs, texts
from surelyends.runs import runs, tosser
from surelyends.text import formats, shell

VALUES = r'''
>>> PAIRS = read_program("x = [1: | 1: !a x x]")
>>> GROWS = read_program("x = [1: | 2: x x]")
>>> TURNS = read_program("x = [3: | 1: y y]\ny = [1: !a | 1: x]")
>>> LEAKS = read_program("x = [1: !a | 1: x z]\nz = [9: | 1: ~]")
>>> PICKS = read_program("x = [1: | 1: <!a x | x x>]")
'''

FRACTIONS = r'''
>>> half, third = Fraction(1, 2), Fraction(-2, -6)
>>> [str(one) for one in (half + third, 1 - third, half * 4, half.by(third), third.power(3), -half, abs(Fraction(3, -4)))]
['5/6', '2/3', '2', '3/2', '1/27', '-1/2', '3/4']
>>> [third.is_less(half), half + half == 1, half == third, str(total_of((half, third, 2))), str(rounded_down(Fraction(7, 9), 4))]
[True, True, False, '17/6', '3/4']
'''

ROWS = r'''
>>> half = Fraction(1, 2)
>>> [times_of(((1, 2), (half, 0)), (4, 1)) == (6, 2), mix_of(((1, 2), (half, 0)), (1, 4)) == (3, 2)]
[True, True]
>>> [solution(((1, 2), (2, 4)), (1, 3)) == ("none", (-2, 1)), cleared(((2, 4), (0, 0))) == ((1, 2),)]
[True, True]
>>> [is_fit(((1,), (-1,)), (1, -2), ("bar", (1, 1))), fit(((1,), (-1,)), (3, -2))[0]]
[True, 'fit']
>>> [is_falling(((0, 1), (half, 0)), ("falling", (4, 3))), falling(((1, 0), (5, 0)))[0]]
[True, 'kept']
'''

PROGRAMS = r'''
>>> [TURNS["x"], calls_of(TURNS, "y"), part_at(TURNS, ("x", (0, 1))), PICKS.choices]
[(('toss', (3, ()), (1, (('call', 'y'), ('call', 'y')))),), ('x',), (('call', 'y'), ('call', 'y')), (('x', (0, 1, 0)),)]
>>> [can_end(LEAKS), is_whole(LEAKS, "z"), str(LEAKS), put_at(LEAKS, ("z", (0, 1, 0)), ("note", "a"))["z"]]
[('x', 'z'), False, 'program of 2 procedures, 6 statements', (('toss', (9, ()), (1, (('note', 'a'),))),)]
'''

TEXTS = r'''
>>> read_body("!a [1: | 2: x ~] {3/1: < | y>}")
(('note', 'a'), ('toss', (1, ()), (2, (('call', 'x'), ('stay',)))), ('again', 3, 1, (('choose', (), (('call', 'y'),)),)))
>>> [body_text(()), body_text((("again", 1, 2, ()),)), program_text(TURNS), line_text(PICKS, "x")]
['', '{1/2:}', 'x = [3: | 1: y y]\ny = [1: !a | 1: x]', 'x = [1: | 1: <!a x | x x>]']
>>> program_text(read_program("x = y\ny ="))
'x = y\ny ='
'''

TOSSER = r'''
>>> tosser = Tosser(TURNS, "x")
>>> [tosser.waits, tosser.go(1, 0), tosser.notes, tosser.depth, str(tosser.chance), tosser.go(1, 0), tosser.has_ended, tosser.deepest]
[2, 5, ('a',), 2, '1/8', 8, True, 3]
>>> [tosser.back(many=2), tosser.left, tosser.picks, tosser.waits, str(tosser)]
[6, ('call', 'x'), (1, 0, 1), 0, 'tosser of x: 6 steps, depth 2']
'''

RUNS = r'''
>>> [list(ended_runs(PAIRS, "x", 6)), is_run(PAIRS, "x", ((1, 0, 0), 6, 2, ("a",))), str(chance_of(PAIRS, "x", (1, 0)))]
[[((0,), 1, 1, ()), ((1, 0, 0), 6, 2, ('a',))], True, '1/4']
>>> [[str(one) for one in ends_after(PAIRS, "x", 6)], str(ends_by(PAIRS, "x", 60, 1)), str(ends_by(PAIRS, "x", 6, 2))]
[['0', '1/2', '0', '0', '0', '0', '1/8'], '1/2', '5/8']
'''

VALUES_OF_PROGRAMS = r'''
>>> half = Fraction(1, 2)
>>> [next_values(GROWS, {"x": half})["x"] == half, str(slopes(GROWS, {"x": half})["x"]["x"]), str(within(GROWS, "x", 3)), within(GROWS, "x", 0) == 0]
[True, '2/3', '971/2187', True]
>>> [str(one) for one in next_values(LEAKS, {"z": 1, "x": 1}).values()]
['1', '9/10']
>>> loop = read_program("x = {1/2: x}")
>>> [str(next_values(loop, {"x": half})["x"]), str(slopes(loop, {"x": half})["x"]["x"]), str(rounds_of(loop, {"x": 0}, 2)["x"]), is_values(loop, {"x": Fraction(3, 2)})]
['1/2', '1/2', '3/7', False]
'''

KNOTS = r'''
>>> [knots(TURNS), knots(LEAKS), reaches(LEAKS, "x"), reaches(LEAKS, "z"), knot_of(LEAKS, "x")]
[(('x', 'y'),), (('z',), ('x',)), ('x', 'z'), ('z',), ('x',)]
>>> [str(mean_calls(GROWS, "x")["x"]), [[str(one) for one in row] for row in mean_rows(TURNS, ("x", "y"))], str(most_calls(PICKS, "x", {"x": 1}))]
['4/3', [['0', '1/2'], ['1/2', '0']], '1']
'''

WEIGHTS = r'''
>>> [pace_of(PAIRS, ("x",)), pace_of(GROWS, ("x",)), pace_of(TURNS, ("x", "y")), pace_of(LEAKS, ("z",))]
['even', 'growing', 'falling', 'falling']
>>> loads_of(TURNS, ("x", "y"), (("x", 1), ("y", 2))) == {"x": 1, "y": Fraction(1, 2)}
True
>>> [is_knot_paper(TURNS, ("x", "y"), ("steady", (("x", 1), ("y", 2)))), is_knot_paper(GROWS, ("x",), ("growing", (("x", 7),)))]
[True, True]
>>> even_weights(read_program("x = y y\ny = [1: | 1: x]"), ("x", "y")) == (("x", 1), ("y", Fraction(1, 2)))
True
'''

SURE = r'''
>>> [sure_paper(GROWS, "x"), is_sure_paper(PAIRS, "x", ("sure", ((("x", 1),),))), sure_paper(TURNS, "y")[0]]
[None, True, 'sure']
>>> [is_sure_paper(TURNS, "x", ("sure", ((("x", 1), ("y", Fraction(1, bottom))),))) for bottom in (1, 2, 3)]
[True, True, False]
>>> twice = read_program("x = y y\ny = [2: | 1: y]")
>>> one, two = ("sure", ((("y", 1),),)), ("sure", ((("x", 2), ("y", 1)),))
>>> [sure_names(twice, two), joined_papers(twice, one, two) == ("sure", ((("y", 1),), (("x", 2),))), split_paper(twice, two) == joined_papers(twice, one, two)]
[('x', 'y'), True, True]
'''

VERDICTS = r'''
>>> [sure_procedures(LEAKS), sure_procedures(TURNS), is_sure(PAIRS, "x"), paper_of(GROWS, "x")[0], unsure_paper(PAIRS, "x")]
[(), ('x', 'y'), True, 'unsure', None]
>>> [is_unsure_paper(GROWS, "x", ("unsure", (("x", Fraction(top, 6)),))) for top in (2, 3, 4, 6)]
[False, True, True, False]
>>> [str(value) for name, value in next_paper(GROWS, "x", ("unsure", (("x", Fraction(2, 3)),)))[1]]
['17/27']
>>> is_paper(LEAKS, "x", ("unsure", (("x", Fraction(10, 11)), ("z", Fraction(9, 10)))))
True
'''

BOUNDS = r'''
>>> third = Fraction(1, 3)
>>> [is_between_paper(GROWS, ("between", (), (("x", third, 2 * third),))), is_between_paper(GROWS, ("between", (), (("x", 2 * third, Fraction(3, 4)),)))]
[True, False]
>>> low, high = bounds(GROWS, "x", Fraction(1, 1000))
>>> [Fraction(1, 2).is_less(low), high.is_less(Fraction(1, 2)), Fraction(1, 1000).is_less(high - low), bounds(PAIRS, "x", 1) == (1, 1)]
[False, False, False, True]
>>> [is_between_paper(PAIRS, ("between", ((("x", 1),),), (("x", 1, 1),))), is_between_paper(LEAKS, ("between", (), (("x", 0, Fraction(10, 11)), ("z", Fraction(9, 10), Fraction(9, 10)))))]
[True, True]
'''

MEANS = r'''
>>> [costs_of(TURNS, {"a": 3})["y"] == Fraction(3, 2), str(mean_of(TURNS, "x", {"a": 1})), mean_of(PAIRS, "x", {"a": 1}), means_of(LEAKS, {"a": 1})]
[True, '1/3', None, {}]
>>> third = Fraction(1, 3)
>>> [is_finite_paper(TURNS, "x", {"a": 1}, ("finite", (("x", third, one), ("y", third + third, 1)))) for one in (1, 2)]
[True, False]
>>> [priced_of(PAIRS, "x", {"b": 5}), finite_paper(PAIRS, "x", {"b": 5}), mean_of(PAIRS, "x", {}) == 0]
[(), ('finite', ()), True]
'''

ENDLESS = r'''
>>> [is_endless_paper(PAIRS, "x", {"a": 7}, ("endless", (("x", 5),))), mean_paper(PAIRS, "x", {"a": 7})[0], mean_paper(PAIRS, "x", {"b": 7}), endless_paper(TURNS, "y", {"a": 1})]
[True, 'endless', ('finite', ()), None]
>>> twice = read_program("x = !a [2: | 1: x x]")
>>> [str(spread_of(twice, "x", {"a": 1})), str(spread_of(twice, "x", {"a": 2})), is_spread_paper(twice, "x", {"a": 1}, ("spread", (("x", 3, 24, 1),)))]
['24', '96', True]
>>> [str(spread_of(TURNS, "x", {"a": 1})), spread_paper(PAIRS, "x", {"a": 1})]
['14/27', None]
'''

EDGES = r'''
>>> toss = ("x", (0,))
>>> [edge_of(PAIRS, "x", toss, branch=1) == ("upto", Fraction(1, 2)), edge_of(GROWS, "x", toss, branch=0) == ("from", Fraction(1, 2))]
[True, True]
>>> [edge_of(TURNS, "x", toss, branch=1), edge_of(LEAKS, "x", toss, branch=1), share_at(GROWS, toss, branch=1) == Fraction(2, 3)]
[('all',), ('none',), True]
>>> ring = read_program("x = {2/1: x y}\ny = [1: | 1: x]")
>>> [edge_of(ring, "y", toss) == ("upto", Fraction(2, 5)), edge_weights(ring, "y", toss) == (("x", 1), ("y", Fraction(1, 2)))]
[True, True]
'''

CHOICES = r'''
>>> [fixed_by(PICKS, {("x", (0, 1, 0)): 1}) == read_program("x = [1: | 1: x x]"), len(list(all_fixed(PICKS)))]
[True, 2]
>>> [always_sure(PICKS, "x"), is_always_paper(PICKS, "x", ("always", ((("x", 5),),)))]
[True, True]
>>> bad = read_program("x = [1: | 2: <x | x x>]")
>>> [always_paper(bad, "x")[:2], sometimes(bad, "x")]
[('spoilt', ((('x', (0, 1, 0)), 1),)), {('x', (0, 1, 0)): 0}]
>>> is_always_paper(bad, "x", ("spoilt", ((("x", (0, 1, 0)), 1),), (("x", Fraction(1, 2)),)))
True
'''

STOPS = r'''
>>> THREE = read_program("x = [1: y | 1: z]\ny = [1: | 2: y z]\nz = [1: | 2: x z]")
>>> [least_stops(THREE, "x"), meeting_sets(THREE, "x"), least_stops(THREE, "z"), is_stop(THREE, "x", ("y", "z")), is_stop(THREE, "y", ("x",)), is_stop(THREE, "x", ("x",))]
[(('y',), ('z',)), (('y', 'z'),), (('x',), ('y',)), True, True, False]
>>> layers, half = ((("y", 1),), (("x", 1), ("z", 2))), Fraction(1, 2)
>>> is_stop_paper(THREE, "x", ("stop", ("y",), layers, ((("x", half), ("y", half), ("z", half)),)))
True
'''

REWRITES = r'''
>>> [inlined(TURNS, ("x", (0, 1, 0)))["x"][0][2][1], unrolled(read_program("x = {1/2: x}"), ("x", (0,)))["x"]]
[(('toss', (1, (('note', 'a'),)), (1, (('call', 'x'),))), ('call', 'y')), (('toss', (1, ()), (2, (('call', 'x'), ('again', 1, 2, (('call', 'x'),))))),)]
>>> [split_off(PAIRS, ("x", (0, 1, 1)), 2, "both")["both"], turned(PAIRS, ("x", (0, 1, 0)))["x"][0][2][1], scaled(GROWS, ("x", (0,)), 3)["x"][0][2][0], dropped(LEAKS, "z").names]
[(('call', 'x'), ('call', 'x')), (('call', 'x'), ('note', 'a'), ('call', 'x')), 6, ('z',)]
'''

BOOK = r'''
>>> book = Book()
>>> [book.watch("x"), book.do(("price", "a", 1), ("set", "x", PAIRS["x"])), list(book.news())]
[1, 1, [('x', None, ('endless',))]]
>>> body = (("toss", (2, ()), (1, (("note", "a"), ("call", "x"), ("call", "x")))),)
>>> [book.do(("set", "x", body)), book.state("x") == ("finite", 1), book.undo(), book.state("x"), book.redo(), str(book)]
[2, True, 1, ('endless',), 2, 'book of 1 procedures, 1 sure']
>>> [book.do(("rename", "x", "y")), [one[0] for one in book.news()], book["y"][0][2][1][2]]
[3, ['x'], ('call', 'y')]
'''

FORMATS = r'''
>>> told = ("sure", ((("y", 1),), (("x", 1), ("z", Fraction(4, 2)))))
>>> [format_paper(told), format_paper(("finite", ())), format_values({"y": Fraction(-1, 2), "x": 3}), format_fraction(Fraction(6, 4))]
['sure: y 1 | x 1, z 2', 'finite: none', 'x 3, y -1/2', '3/2']
>>> [parse_paper("unsure: x 1/2, y 1") == ("unsure", (("x", Fraction(1, 2)), ("y", 1))), is_shown(("sure", ((),))), parse_values("none")]
[True, False, {}]
'''

SHELL = r'''
>>> shell = Shell()
>>> list(shell.run_all(("watch x", "price a 1", "set x [1: | 1: !a x x]", "set x [2: | 1: !a x x]", "show x", "state x")))
['1', 'ok', 'x: none to endless', 'x: endless to finite 1', 'x = [2: | 1: !a x x]', 'finite 1']
>>> [shell("set y x ~"), shell("state y"), shell("stops y"), shell("undo 2"), shell("names"), len(shell)]
['ok', 'unsure', 'none', 'x: finite 1 to endless', 'x', 6]
'''


class ExamplesTest(unittest.TestCase):
    def known(self):
        """All functions, classes and constants of the interface, and the five values that the examples use."""
        found = {}
        for module in (fractions, rows, programs, texts, tosser, runs, values, knots, weights, sure, verdicts, bounds, means,
                       endless, edges, choices, stops, rewrites, book, formats, shell):
            found.update({name: value for name, value in vars(module).items() if not name.startswith("_")})
        for line in VALUES.strip().split("\n"):
            exec(line.removeprefix(">>> "), found)
        return found

    def run_examples(self, text, many):
        test = doctest.DocTestParser().get_doctest(text, self.known(), "examples", None, 0)
        self.assertEqual(len(test.examples), many)
        said = []
        runner = doctest.DocTestRunner(verbose=False)
        runner.run(test, out=said.append)
        self.assertEqual(runner.failures, 0, "".join(said))

    def test_fractions(self):
        self.run_examples(FRACTIONS, 3)

    def test_rows(self):
        self.run_examples(ROWS, 5)

    def test_programs(self):
        self.run_examples(PROGRAMS, 2)

    def test_texts(self):
        self.run_examples(TEXTS, 3)

    def test_tosser(self):
        self.run_examples(TOSSER, 3)

    def test_runs(self):
        self.run_examples(RUNS, 2)

    def test_values(self):
        self.run_examples(VALUES_OF_PROGRAMS, 5)

    def test_knots(self):
        self.run_examples(KNOTS, 2)

    def test_weights(self):
        self.run_examples(WEIGHTS, 4)

    def test_sure(self):
        self.run_examples(SURE, 5)

    def test_verdicts(self):
        self.run_examples(VERDICTS, 4)

    def test_bounds(self):
        self.run_examples(BOUNDS, 5)

    def test_means(self):
        self.run_examples(MEANS, 4)

    def test_endless(self):
        self.run_examples(ENDLESS, 4)

    def test_edges(self):
        self.run_examples(EDGES, 5)

    def test_choices(self):
        self.run_examples(CHOICES, 5)

    def test_stops(self):
        self.run_examples(STOPS, 4)

    def test_rewrites(self):
        self.run_examples(REWRITES, 2)

    def test_book(self):
        self.run_examples(BOOK, 5)

    def test_formats(self):
        self.run_examples(FORMATS, 3)

    def test_shell(self):
        self.run_examples(SHELL, 3)


if __name__ == "__main__":
    unittest.main()

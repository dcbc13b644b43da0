"""What the document promises over the whole program: that the verdicts of all stages agree [0.14]."""

import random
import unittest

import plain
from helpers import as_python, drawn_program, drawn_small_program, raised
from surelyends.chances.knots import knot_of, knots
from surelyends.chances.values import next_values, within
from surelyends.chances.weights import pace_of
from surelyends.change.edges import edge_of, share_at
from surelyends.change.rewrites import dropped
from surelyends.change.stops import is_stop, is_stop_paper, least_stops, meeting_sets, stop_paper
from surelyends.choices.choices import all_fixed, always_paper, always_sure, is_always_paper, sometimes
from surelyends.errors import InvalidOperation
from surelyends.live.book import Book
from surelyends.means.endless import endless_paper, is_mean_paper, is_spread_paper, mean_paper, spread_of, spread_paper
from surelyends.means.means import finite_paper, is_finite_paper, mean_of, means_of
from surelyends.numbers.fractions import Fraction
from surelyends.papers.bounds import between_paper, bounds, is_between_paper
from surelyends.papers.sure import is_sure_paper, joined_papers, split_paper, sure_names, sure_paper
from surelyends.papers.verdicts import is_paper, is_sure, is_unsure_paper, next_paper, paper_of, sure_procedures, unsure_paper
from surelyends.programs.programs import calls_of, can_end
from surelyends.programs.texts import program_text, read_program
from surelyends.text.formats import format_paper, format_values, parse_paper, parse_values
from surelyends.text.shell import Shell
from test_choices import drawn_free
from test_edges import dials_of, drawn_ring
from test_stops import drawn_growing_program

PRICES = {"a": 2, "b": 1}


def drawn_any(draw):
    kinds = (drawn_program, drawn_small_program, drawn_small_program, drawn_ring, drawn_growing_program)
    return draw.choice(kinds)(draw)


class WholeTest(unittest.TestCase):
    def setUp(self):
        self.draw = random.Random(231)

    def check_chances(self, program):
        """The sure procedures, by papers, bounds and edges."""
        paper = between_paper(program, Fraction(1, 10 ** 12))
        self.assertIs(is_between_paper(program, paper), True)
        rows = {name: (low, high) for name, low, high in paper[2]}
        sure = sure_procedures(program)
        self.assertEqual(sure_names(program, ("sure", paper[1])), sure)
        for name in program.names:
            is_one = name in sure
            self.assertIs(is_sure(program, name), is_one)
            self.assertEqual(plain.is_sure(program.bodies, name), is_one)
            self.assertEqual((sure_paper(program, name) is None, unsure_paper(program, name) is None), (not is_one, is_one))
            told = paper_of(program, name)
            self.assertIs(is_paper(program, name, told), True)
            self.assertEqual(told[0], "sure" if is_one else "unsure")
            for low, high in (rows[name], bounds(program, name, Fraction(1, 10 ** 6))):
                self.assertEqual(low == 1, is_one)
                self.assertEqual(high == 1, is_one)
                self.assertFalse(low.is_less(within(program, name, 2)) and high.is_less(within(program, name, 2)))
            if name not in can_end(program):
                self.assertEqual(rows[name][1], 0)
            # What a sure procedure calls is sure, and it is sure alone, too.
            self.assertTrue(not is_one or all(other in sure for other in calls_of(program, name)))
            self.assertIs(is_sure(dropped(program, name), name), is_one)
            self.check_text(told)
            if not is_one:
                self.assertIs(is_unsure_paper(program, name, next_paper(program, name, told)), True)
        self.check_text(paper)
        highs = {name: high for name, (_, high) in rows.items()}
        self.assertEqual(parse_values(format_values(next_values(program, highs))), next_values(program, highs))
        return sure

    def check_text(self, paper):
        self.assertEqual(parse_paper(format_paper(paper)), paper)

    def check_means(self, program, sure):
        means = means_of(program, PRICES)
        self.assertEqual(tuple(means), sure)
        for name in sure:
            endless, finite = endless_paper(program, name, PRICES), finite_paper(program, name, PRICES)
            self.assertEqual((means[name] is None, endless is None), (finite is None, finite is not None))
            paper = parse_paper(format_paper(mean_paper(program, name, PRICES)))
            self.assertIs(is_mean_paper(program, name, PRICES, paper), True)
            even = [knot for knot in knots(program) if pace_of(program, knot) == "even" and knot[0] in plain.priced(program.bodies, name, PRICES)]
            self.assertEqual(means[name] is None, even != [])
            if finite is None:
                raised(InvalidOperation, spread_of, program, name, PRICES)
                self.assertIsNone(spread_paper(program, name, PRICES))
            else:
                spread = spread_paper(program, name, PRICES)
                self.assertIs(is_spread_paper(program, name, PRICES, spread), True)
                rows = ("finite", tuple((other, mean, weight) for other, mean, _, weight in spread[1]))
                self.assertIs(is_finite_paper(program, name, PRICES, rows), True)
                # A mean without a price has no spread, and one with a spread has a mean.
                self.assertTrue(mean_of(program, name, PRICES) != 0 or spread_of(program, name, PRICES) == 0)

    def check_edges(self, program, sure):
        dials = dials_of(program)
        for place, branch in self.draw.sample(dials, min(len(dials), 3)):
            share = share_at(program, place, branch=branch)
            for name in program.names[:3]:
                form = edge_of(program, name, place, branch=branch)
                if len(form) == 1:
                    self.assertEqual(form[0], "all" if name in sure else "none")
                else:
                    self.assertEqual(name in sure, share == form[1] or share.is_less(form[1]) == (form[0] == "upto"))
                    even = pace_of(program, knot_of(program, place[0])) == "even"
                    self.assertEqual(share == form[1], even)

    def check_stops(self, program, sure):
        for name in program.names[:2]:
            stops = least_stops(program, name)
            self.assertEqual(stops == ((),), name in sure)
            self.assertIs(is_stop(program, name, ()), name in sure)
            self.assertEqual(meeting_sets(program, name) == (), name in sure)
            for names in stops:
                self.assertIs(is_stop_paper(program, name, stop_paper(program, name, names)), True)

    def check_books(self, program, sure):
        means = means_of(program, PRICES)
        states = {name: ("unsure",) if name not in sure else ("endless",) if means[name] is None else ("finite", means[name]) for name in program.names}
        book = Book()
        book.do_all(tuple(("set", name, body) for name, body in program.bodies.items()) + tuple(("price", *pair) for pair in PRICES.items()))
        self.assertEqual(book.states(), states)
        shell = Shell(book.twin())
        shell("set zz ~")
        shell("price a 77")
        shell("undo 2")
        self.assertEqual(shell.shown().states(), states)
        for name in program.names:
            told = parse_paper(shell(f"paper {name}"))
            self.assertIs(is_paper(program, name, told), True)
            self.assertEqual(shell(f"state {name}"), " ".join(str(part) for part in states[name]))
            self.assertEqual(shell(f"stops {name}") == "-", name in sure)
            self.assertEqual(shell(f"chance {name} 3") == "1 to 1", name in sure)

    def check_choices(self, program, sure):
        for name in program.names:
            paper = always_paper(program, name)
            self.assertIs(is_always_paper(program, name, paper), True)
            self.assertEqual((paper[0] == "always", always_sure(program, name), sometimes(program, name)), (name in sure, name in sure, {} if name in sure else None))
            if paper[0] == "always":
                self.assertIs(is_sure_paper(program, name, ("sure", paper[1])), True)
            else:
                self.assertIs(is_unsure_paper(program, name, ("unsure", paper[2])), True)

    def test_closed_programs(self):
        kinds = []
        for _ in range(110):
            program = drawn_any(self.draw)
            self.assertEqual(read_program(program_text(program)), program)
            sure = self.check_chances(program)
            self.check_means(program, sure)
            self.check_edges(program, sure)
            self.check_stops(program, sure)
            self.check_books(program, sure)
            self.check_choices(program, sure)
            kinds.append((len(sure) > 0, len(sure) < len(program)))
        for kind in ((True, True), (True, False), (False, True)):
            self.assertGreater(kinds.count(kind), 5, kind)

    def test_programs_with_choices(self):
        kinds = []
        for _ in range(70):
            free = drawn_free(self.draw)
            fixed = [program for _, program in all_fixed(free)]
            for name in free.names:
                sure = [is_sure(program, name) for program in fixed]
                paper = always_paper(free, name)
                self.assertEqual((always_sure(free, name), paper[0]), (all(sure), "always" if all(sure) else "spoilt"))
                if all(sure):
                    # One weight for each procedure shows it for all choices.
                    self.assertTrue(all(is_sure_paper(program, name, ("sure", paper[1])) for program in fixed))
                self.assertEqual(sometimes(free, name) is None, not any(sure))
                kinds.append((all(sure), any(sure)))
        for kind in ((True, True), (False, True), (False, False)):
            self.assertGreater(kinds.count(kind), 10, kind)

    def test_papers_put_together(self):
        many = 0
        for _ in range(80):
            program = drawn_any(self.draw)
            papers = [paper for paper in (sure_paper(program, name) for name in program.names) if paper is not None]
            found = ("sure", ())
            for paper in papers:
                found = joined_papers(program, found, paper)
                self.check_text(found)
            self.assertEqual(sure_names(program, found), sure_procedures(program))
            split = parse_paper(format_paper(split_paper(program, found)))
            for name in sure_procedures(program):
                self.assertIs(is_sure_paper(program, name, split), True)
                many += 1
        self.assertGreater(many, 60)

    def test_what_is_not_true(self):
        """The sentences of [0.15], each by a program for which it fails."""
        loops = read_program("x = [1: | 3: x x]")
        self.assertEqual((can_end(loops), is_sure(loops, "x")), (("x",), False))
        pairs = read_program("x = [1: | 1: !a x x]")
        self.assertEqual((is_sure(pairs, "x"), mean_of(pairs, "x", PRICES)), (True, None))
        roots = read_program("x = [1: | 2: x x x]")
        low, high = bounds(roots, "x", Fraction(1, 10 ** 30))
        # The chance is the root of 2 c c + 2 c - 1, which is no fraction.
        self.assertTrue(0 > 2 * as_python(low) ** 2 + 2 * as_python(low) - 1 and 0 < 2 * as_python(high) ** 2 + 2 * as_python(high) - 1)
        once = read_program("x = x")
        self.assertEqual((pace_of(once, ("x",)), is_sure(once, "x")), ("even", False))
        both = read_program("x = [1: | 1: x x] y\ny = [1: | 2: y y]")
        self.assertEqual((pace_of(both, ("x",)), is_sure(both, "x")), ("even", False))
        equal = read_program("x = [1: | 1: x]\ny = !a")
        self.assertEqual((means_of(equal, PRICES)["x"], means_of(equal, PRICES)["y"]), (0, 2))
        slow = read_program("x = [1: | 1: x x]")
        self.assertEqual(bounds(slow, "x", 1), (1, 1))
        self.assertTrue(within(slow, "x", 7).is_less(Fraction(9, 10)))


if __name__ == "__main__":
    unittest.main()

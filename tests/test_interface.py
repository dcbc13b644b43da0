"""The names of the interface: where they are defined, and their parameters."""

import importlib
import inspect
import unittest

FUNCTIONS = {
    "chances.values": """is_values(program, value); next_values(program, values); slopes(program, values);
        rounds_of(program, values, many); within(program, name, depth)""",
    "chances.knots": """reaches(free, name); knots(free); knot_of(free, name); mean_calls(program, name);
        mean_rows(program, knot); most_calls(free, name, weights)""",
    "chances.weights": """loads_of(program, knot, weights); pace_of(program, knot); knot_paper(program, knot);
        is_knot_paper(program, knot, value); even_weights(program, knot)""",
    "papers.sure": """sure_paper(program, name); is_sure_paper(program, name, value); sure_names(program, value);
        split_paper(program, value); joined_papers(program, value, other)""",
    "papers.verdicts": """is_sure(program, name); sure_procedures(program); unsure_paper(program, name);
        is_unsure_paper(program, name, value); paper_of(program, name); is_paper(program, name, value);
        next_paper(program, name, value); lesser_paper(program, name, value, other)""",
    "papers.bounds": "between_paper(program, error); is_between_paper(program, value); bounds(program, name, error)",
    "means.means": """costs_of(program, prices); priced_of(program, name, prices); mean_of(program, name, prices);
        means_of(program, prices); finite_paper(program, name, prices); is_finite_paper(program, name, prices, value)""",
    "means.endless": """endless_paper(program, name, prices); is_endless_paper(program, name, prices, value);
        mean_paper(program, name, prices); is_mean_paper(program, name, prices, value);
        spread_of(program, name, prices); spread_paper(program, name, prices);
        is_spread_paper(program, name, prices, value)""",
    "change.edges": """share_at(program, place, *, branch=None); calls_at(program, place, share, *, branch=None);
        sure_at(program, name, place, share, *, branch=None); edge_of(program, name, place, *, branch=None);
        edge_weights(program, name, place, *, branch=None)""",
    "choices.choices": """fixed_by(free, plan); all_fixed(free); always_sure(free, name); always_paper(free, name);
        is_always_paper(free, name, value); sometimes(free, name)""",
    "change.stops": """stopped(program, names); is_stop(program, name, value); least_stops(program, name);
        meeting_sets(program, name); stop_paper(program, name, names); is_stop_paper(program, name, value)""",
}


class InterfaceTest(unittest.TestCase):
    def test_functions(self):
        for path, told in FUNCTIONS.items():
            module = importlib.import_module(f"surelyends.{path}")
            for line in told.split(";"):
                name, _, parameters = line.strip().partition("(")
                found = getattr(module, name)
                self.assertEqual(found.__module__, f"surelyends.{path}")
                self.assertEqual(str(inspect.signature(found)), "(" + parameters)


if __name__ == "__main__":
    unittest.main()

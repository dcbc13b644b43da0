"""The names of the interface: where they are defined, and their parameters."""

import importlib
import inspect
import unittest

FUNCTIONS = {
    "chances.values": """is_values(program, value); next_values(program, values); slopes(program, values);
        rounds_of(program, values, many); within(program, name, depth)""",
    "chances.knots": """reaches(free, name); knots(free); knot_of(free, name); mean_calls(program, name);
        mean_rows(program, knot); most_calls(free, name, weights)""",
    "chances.weights": """loads_of(program, knot, weights); pace_of(program, knot); knot_paper(program, knot);
        is_knot_paper(program, knot, value); even_weights(program, knot)""",
    "papers.sure": """sure_paper(program, name); is_sure_paper(program, name, value); sure_names(program, value);
        split_paper(program, value); joined_papers(program, value, other)""",
    "papers.verdicts": """is_sure(program, name); sure_procedures(program); unsure_paper(program, name);
        is_unsure_paper(program, name, value); paper_of(program, name); is_paper(program, name, value);
        next_paper(program, name, value); lesser_paper(program, name, value, other)""",
    "papers.bounds": "between_paper(program, error); is_between_paper(program, value); bounds(program, name, error)",
    "means.means": """costs_of(program, prices); priced_of(program, name, prices); mean_of(program, name, prices);
        means_of(program, prices); finite_paper(program, name, prices); is_finite_paper(program, name, prices, value)""",
    "means.endless": """endless_paper(program, name, prices); is_endless_paper(program, name, prices, value);
        mean_paper(program, name, prices); is_mean_paper(program, name, prices, value);
        spread_of(program, name, prices); spread_paper(program, name, prices);
        is_spread_paper(program, name, prices, value)""",
    "change.edges": """share_at(program, place, *, branch=None); calls_at(program, place, share, *, branch=None);
        sure_at(program, name, place, share, *, branch=None); edge_of(program, name, place, *, branch=None);
        edge_weights(program, name, place, *, branch=None)""",
    "choices.choices": """fixed_by(free, plan); all_fixed(free); always_sure(free, name); always_paper(free, name);
        is_always_paper(free, name, value); sometimes(free, name)""",
    "change.stops": """stopped(program, names); is_stop(program, name, value); least_stops(program, name);
        meeting_sets(program, name); stop_paper(program, name, names); is_stop_paper(program, name, value)""",
    "change.rewrites": """inlined(free, place); unrolled(free, place); scaled(free, place, many); lowered(free, place);
        merged(free, place); flattened(free, place, branch); split_off(free, place, many, word); turned(free, place);
        dropped(free, name)""",
    "text.formats": """format_fraction(fraction); parse_fraction(text); format_values(rows); parse_values(text);
        is_shown(value); format_paper(value); parse_paper(text)""",
    "numbers.fractions": """is_fraction(value); least_of(fractions); greatest_of(fractions); total_of(fractions);
        rounded_down(fraction, bottom); rounded_up(fraction, bottom)""",
    "numbers.rows": """is_rows(value); times_of(rows, column); mix_of(rows, factors); cleared(rows); solution(rows, totals);
        is_solution(rows, totals, value); fit(rows, totals); is_fit(rows, totals, value); falling(rows);
        is_falling(rows, value)""",
    "programs.programs": """is_name(value); is_body(value); part_at(free, place); put_at(free, place, part);
        calls_of(free, name); is_whole(free, name); can_end(program)""",
    "programs.texts": """body_text(body); read_body(text); program_text(free); read_program(text);
        line_text(free, name)""",
    "runs.runs": """ended_runs(program, name, steps); is_run(program, name, value); chance_of(program, name, picks);
        ends_after(program, name, steps); ends_by(program, name, steps, depth)""",
}

# Methods with their parameters; properties without.
CLASSES = {
    "numbers.fractions.Fraction": """__init__(self, top, bottom=1); top; bottom; __add__(self, other); __sub__(self, other);
        __mul__(self, other); __radd__(self, other); __rsub__(self, other); __rmul__(self, other); __neg__(self);
        __abs__(self); by(self, other); is_less(self, other); power(self, many); __eq__(self, other); __str__(self)""",
    "programs.programs.Program": """__init__(self, **bodies); of(bodies); names; events; bodies; is_closed; choices;
        __getitem__(self, at); with_body(self, name, body); without(self, name); renamed(self, mapping);
        __or__(self, other); __len__(self); __contains__(self, value); __eq__(self, other); __str__(self)""",
    "runs.tosser.Tosser": """__init__(self, program, name); program; procedure; picks; notes; steps; depth; deepest; chance;
        has_ended; left; waits; step(self); pick(self, number); go(self, *picks); go_all(self, picks);
        back(self, *, many=1); trial(self); attempt(self, action); twin(self); __eq__(self, other); __str__(self)""",
    "live.book.Book": """__init__(self); names; prices; steps; watched; do(self, *edits); do_all(self, edits);
        undo(self, *, many=1); redo(self, *, many=1); as_program(self); state(self, name); states(self);
        watch(self, name); unwatch(self, name); news(self); trial(self); attempt(self, action); twin(self); __len__(self);
        __contains__(self, value); __getitem__(self, at); __eq__(self, other); __str__(self)""",
    "text.shell.Shell": """__init__(self, book=None); run(self, line); __call__(self, line); run_all(self, lines); log; names;
        shown(self); __len__(self); __str__(self)""",
}
CONSTANTS = {
    "numbers.fractions": {"MAX_POWER": 64},
    "numbers.rows": {"MAX_ROWS": 80, "MAX_WIDTH": 12},
    "programs.programs": {"MAX_PROCEDURES": 8, "MAX_STATEMENTS": 60, "MAX_DEPTH": 4, "MAX_WEIGHT": 99},
    "runs.tosser": {"MAX_STEPS": 10000},
    "runs.runs": {"MOST_STEPS": 12, "MOST_PICKS": 5000},
    "chances.values": {"MAX_DEGREE": 400},
    "choices.choices": {"MAX_FIXED": 64},
}


class InterfaceTest(unittest.TestCase):
    def test_functions(self):
        for path, told in FUNCTIONS.items():
            module = importlib.import_module(f"surelyends.{path}")
            for line in told.split(";"):
                name, _, parameters = line.strip().partition("(")
                found = getattr(module, name)
                self.assertEqual(found.__module__, f"surelyends.{path}")
                self.assertEqual(str(inspect.signature(found)), "(" + parameters)

    def test_classes(self):
        for path, told in CLASSES.items():
            module, _, name = path.rpartition(".")
            found = getattr(importlib.import_module(f"surelyends.{module}"), name)
            self.assertEqual(found.__module__, f"surelyends.{module}")
            for line in told.split(";"):
                name, sign, parameters = line.strip().partition("(")
                # In the class itself, not only in one above it.
                part = vars(found)[name]
                if sign == "":
                    self.assertIsInstance(part, property)
                else:
                    part = part.__func__ if isinstance(part, staticmethod) else part
                    self.assertEqual(str(inspect.signature(part)), "(" + parameters)

    def test_constants(self):
        for path, told in CONSTANTS.items():
            module = importlib.import_module(f"surelyends.{path}")
            for name, value in told.items():
                self.assertIs(type(vars(module)[name]), int)
                self.assertEqual(vars(module)[name], value)


if __name__ == "__main__":
    unittest.main()

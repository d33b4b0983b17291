"""The interface: each name is defined in the file that tells it, with the parameters shown."""

import importlib
import inspect
import unittest

INTERFACE = {
    "callsteps": "begun(program, f, zone); returned(program, f, zone, expression); "
                 "called(program, f, zone, g, expressions); come_back(program, f, zone, x, g, expressions, end)",
    "comparetrees": "judged_tree(program, other, steps, thing)",
    "comparing": "compared(program, other, steps, many); unlike_from(program, other, steps, many); "
                 "unlike_sides(program, other, steps, many)",
    "counting": "count(ranges, conditions)",
    "covers": "cover(program, steps, many); paths(program, steps, many); judged_cover(program, steps, thing); "
              "closed_by(program, steps, many); broken(program, steps, many)",
    "deciding": "system_of(ranges, facts); decided(ranges, conditions); is_refutation(ranges, conditions, thing)",
    "endings": "judged_depths(program, paper, depths); longest(program, paper, rankings, depths)",
    "evens": "gains(program, f, place)",
    "farpaths": "far_cover(program, leaps, many); far_paths(program, leaps, many); all_told(program, leaps, many); "
                "endless(program, leaps, many); far_longest(program, leaps, many); judged_far(program, leaps, thing)",
    "farwalks": "far_followed(program, sides, leaps)",
    "feeds": "fed(program, feeds, steps); visits(program, edge, names, inputs, steps)",
    "folding": "dead(program, paper); known(program, paper, f, place, x); "
               "answer_at(program, paper, f, place, condition); folded(program, paper)",
    "forms": "form_of(expression); strip_of(expression, strips)",
    "graphs": "places(program, f); edges(program, f); assertions(program)",
    "judge": "demands(program, paper); judged(program, paper); lies(program, paper, state); "
             "met_papers(program, paper, other)",
    "ladders": "rounded(zone, ladder)",
    "layers": "next_states(program, state, width); layers(program, many, width); way_to(program, state, many, width); "
              "first_break(program, assertion, many, width); open_at(program, states, width); "
              "broken_in(program, states); ends_in(program, states)",
    "leaps": "far_path_of(program, inputs, leaps)",
    "leastpapers": "empty_paper(program, cuts); wanted(program, paper); pushed(program, ladder, paper); "
                   "least_paper(program, ladder, cuts); pushes(program, ladder, cuts); "
                   "place_zone(program, paper, f, place)",
    "loops": "heads(program, f); inner_places(program, f, head); leads(program, f, head)",
    "outcomes": "chances(program, steps, many); chance_of_all(program, steps, some); "
                "chance_of(program, steps, many, why); chance_ending(program, steps, many, condition); "
                "ending(program, steps, many, condition); is_never(program, steps, many, condition, thing); "
                "least_outcome(program, steps, many); greatest_outcome(program, steps, many)",
    "papers": "things_of(program, f); sided(zone, cuts, sides); sides_of(cuts, numbers); is_paper(program, thing)",
    "papertexts": "paper_text(program, paper); read_paper(program, text)",
    "paths": "path_of(program, inputs, steps); followed(program, sides, steps)",
    "plainforms": "plain(expression); alternatives(condition)",
    "programs": "Program(functions); names_of(program, f)",
    "puttogether": "put_row(row, expressions, first, ahead); cut_row(row, steps); "
                   "together(program, f, summaries, steps, many); tried(program, f, ranges, steps, many)",
    "rankings": "is_ranking(program, paper, f, head, thing)",
    "rankjudge": "judged_ranking(program, paper, f, head, ranking); rounds_at_most(program, paper, f, head, ranking); "
                 "ranking(program, paper, f, head, ranks, ladder); found_ranking(program, paper, f, head, ladder)",
    "reading": "read(text)",
    "runs": "played(program, inputs, steps); printed(program, inputs, steps); "
            "breaking(program, assertion, inputs, steps)",
    "secrets": "hangs_on(program, edge); is_open(program, secrets, edge)",
    "sharper": "narrowed(program, paper, rounds); stands_from(program, paper, rounds); "
               "rows_at(program, paper, f, place); is_sharper(program, paper, other); uncut(program, paper)",
    "slices": "is_closed(program, edge, thing); slice_of(program, edge); chain(program, edge, other)",
    "strips": "reduced(low, high, modulus, remainder); strip_has(strip, n); strip_many(strip); "
              "strip_within(strip, other); strip_joined(strip, other); strip_met(strip, other); "
              "strip_without(strip, n); strip_sum(strip, other); strip_times(n, strip); strip_div(strip, n); "
              "strip_mod(strip, n)",
    "summaries": "followed_from(program, f, sides, steps); summary(program, f, steps, many); "
                 "row_met(program, f, numbers, inputs, steps)",
    "systems": "is_met(system, thing); is_none(system, thing); solved(system); least_of(system, factors); "
               "greatest_of(system, factors)",
    "testlists": "touched(program, sides, steps); untested(program, steps, many); tests(program, steps, many)",
    "thinning": "sliced(program, edge, edges)",
    "traces": "trace(program, inputs, steps); is_parting(program, other, inputs, steps); traced(program, sides, steps)",
    "verdicts": "shows(program, paper, assertion); verdict(program, assertion, ladder, cuts, rounds, steps, many); "
                "verdicts(program, ladder, cuts, rounds, steps, many); is_verdict(program, assertion, thing)",
    "ways": "reaching(program, f, place, variable); hanging(program, f, place)",
    "writing": "written(program)",
    "zones": "is_zone(thing); closed(zone); is_in(zone, values); is_even(zone); is_below(zone, other); "
             "is_within(zone, other); joined(zone, other); met(zone, other); strip_in(zone, thing); "
             "kept(zone, things); renamed(zone, names)",
    "zonesteps": "most(zone, expression); drawn(zone, expressions); freed(zone, thing, low, high); "
                 "when(zone, condition); stepped(zone, action)",
}


class InterfaceTest(unittest.TestCase):
    def test_names_and_parameters(self):
        for module, told in INTERFACE.items():
            found = importlib.import_module(f"everypath.{module}")
            for entry in told.split("; "):
                name, _, parameters = entry.rstrip(")").partition("(")
                thing = getattr(found, name)
                self.assertEqual(thing.__module__, f"everypath.{module}")
                self.assertEqual(list(inspect.signature(thing).parameters), parameters.split(", "))

    def test_methods_of_program(self):
        program = importlib.import_module("everypath.programs").Program
        self.assertIn("functions", vars(program))
        self.assertIn("__eq__", vars(program))


if __name__ == "__main__":
    unittest.main()

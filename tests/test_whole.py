"""[1.1], [1.2], [2.1] to [2.3] over the whole program, and the examples that are told as texts."""

import importlib
import random
import unittest

from everypath import errors, refusals
from everypath.comparetrees import judged_tree
from everypath.comparing import compared, unlike_from
from everypath.covers import broken, closed_by, cover, judged_cover, paths
from everypath.endings import judged_depths, longest
from everypath.errors import RunError
from everypath.evens import gains
from everypath.farpaths import all_told, endless, far_cover, far_longest, far_paths
from everypath.farwalks import far_followed
from everypath.folding import dead, folded
from everypath.graphs import assertions, edges, places
from everypath.judge import judged
from everypath.layers import broken_in, ends_in, first_break, layers, way_to
from everypath.leastpapers import least_paper, pushes
from everypath.loops import heads, inner_places, leads
from everypath.outcomes import chances, least_outcome
from everypath.papertexts import paper_text
from everypath.paths import path_of
from everypath.programs import Program, names_of
from everypath.rankjudge import found_ranking, judged_ranking, rounds_at_most
from everypath.reading import read
from everypath.refusals import NotTaken
from everypath.runs import breaking, played
from everypath.sharper import narrowed
from everypath.slices import slice_of
from everypath.summaries import summary
from everypath.testlists import tests, untested
from everypath.traces import is_parting, trace
from everypath.verdicts import is_verdict, verdict
from everypath.ways import hanging
from everypath.writing import written
from tests.helpers import any_objects, listed, name, num, shape, sub, told, tupled_all
from tests.samples import all_runs
from tests.test_errors import ERRORS, REFUSALS
from tests.test_interface import INTERFACE
from tests.test_leastpapers import random_cuts
from tests.test_paths import random_program

P = read("def half(a) { return a // 2; } def main() { x = any(0, 20); y = half(x); if y > 7 { y = y - x; } "
         "assert y + x != 9; while x > 4 { x = x - 3; } return x; }")
LOOP = read("def main() { n = any(0, 9); while n > 0 { n = n - 2; } return n; }")
CUTS = {"half": [], "main": [("x", 4)]}
LADDER = [-1, 0, 9, 20]
PAPER = least_paper(P, LADDER, CUTS)
STATE = [("main", 2, {"x": 3, "y": 0}), ("half", 0, {"a": 3})]
ZONE = (["x", "y"], {("x", "0"): 4, ("0", "x"): 0}, {"x": (2, 0), "y": (1, 0)})
STRIP = (0, 9, 3, 0)
RANGES, U, OUT = [(0, 5), (0, 5)], name("u0"), name("out")
FACTS = [(U, num(3))]
CONDITIONS = [("lt", U, num(3)), ("ne", name("u1"), U)]
SYSTEM = ([(0, 9), (0, 9)], [([1, 1], 5)])
ROW = ([("input", 0, 0, 3), ("side", 1, 0, ("lt", U, name("a")))], 2, ("ends", U))
LOOP_PAPER = least_paper(LOOP, [-1, 0, 9], {"main": []})
RANKING = found_ranking(LOOP, LOOP_PAPER, "main", 3, [-1, 0, 9])
HALF_ZONE = (["a", "a0"], {}, {"a": (1, 0), "a0": (1, 0)})
MAIN_ZONE = (["x", "y"], {}, {"x": (1, 0), "y": (1, 0)})

# right values of parameters, where nothing else is said below
RIGHT = {
    "program": P, "f": "main", "paper": PAPER, "steps": 12, "many": 40, "inputs": [9], "assertion": ("main", 7), "ladder": LADDER,
    "cuts": CUTS, "rounds": 1, "place": 3, "sides": [1], "edge": ("main", 7), "condition": ("lt", name("x"), num(3)), "thing": None,
    "zone": ZONE, "ranges": RANGES, "conditions": CONDITIONS, "system": SYSTEM, "strip": STRIP, "state": STATE, "width": 30, "leaps": 9,
    "expression": sub(name("x"), num(1)), "expressions": {"a": num(1)}, "row": ROW}
# the errors of parameters, where nothing else is said below
DUE = {
    "program": "BadProgram", "f": "BadName", "paper": "BadPaper", "steps": "BadSteps", "many": "BadMany", "inputs": "BadInputs",
    "assertion": "BadAssertion", "ladder": "BadLadder", "cuts": "BadCuts", "rounds": "BadRounds", "place": "BadPlace", "sides": "BadSides",
    "edge": "BadEdge", "condition": "BadCondition", "zone": "BadZone", "ranges": "BadRanges", "conditions": "BadConditions",
    "system": "BadSystem", "strip": "BadStrip", "state": "BadState", "width": "BadWidth", "leaps": "BadLeaps", "expression": "BadExpression",
    "expressions": "BadExpressions", "row": "BadRow", "n": "BadInteger", "factors": "BadFactors", "facts": "BadFacts", "strips": "BadStrips",
    "names": "BadNames", "things": "BadThings", "low": "BadLow", "high": "BadHigh", "action": "BadAction", "g": "BadName", "x": "BadName",
    "end": "BadEnd", "numbers": "BadNumbers", "other": "BadOther", "head": "BadHead", "ranking": "BadRanking", "ranks": "BadRanks",
    "depths": "BadDepths", "rankings": "BadRankings", "states": "BadStates", "some": "BadSome", "why": "BadWhy", "feeds": "BadFeeds",
    "variable": "BadVariable", "edges": "BadEdges", "secrets": "BadSecrets", "first": "BadNumber", "ahead": "BadNumber",
    "summaries": "BadSummaries", "text": "BadText", "functions": "BadFunctions"}
LOOPING = {"program": LOOP, "paper": LOOP_PAPER, "head": 3, "ranking": RANKING, "ladder": [-1, 0, 9]}
# for functions their own right values, and (parameter: error) that are not as above
OWN = {
    "returned": ({"f": "half", "zone": HALF_ZONE, "expression": name("a")}, {}),
    "begun": ({"f": "half", "zone": (["a"], {}, {"a": (1, 0)})}, {}),
    "called": ({"zone": MAIN_ZONE, "g": "half", "expressions": [num(1)]}, {}),
    "come_back": ({"zone": MAIN_ZONE, "x": "y", "g": "half", "expressions": [num(1)], "end": (["=", "a0"], {}, {"=": (1, 0), "a0": (1, 0)})}, {}),
    "judged_tree": ({"other": P}, {}), "compared": ({"other": P}, {}), "unlike_from": ({"other": P}, {}), "unlike_sides": ({"other": P}, {}),
    "is_parting": ({"other": P}, {"inputs": None}), "system_of": ({"facts": FACTS}, {}),
    "judged_depths": ({"depths": {"half": num(0), "main": num(0)}}, {}),
    "longest": ({**LOOPING, "rankings": {("main", 3): RANKING}, "depths": {"main": num(0)}}, {}),
    "visits": ({"names": ["x", "q"]}, {}), "fed": ({"feeds": {("main", 0): [3]}}, {}), "known": ({"x": "x"}, {}),
    "strip_of": ({"strips": {"x": STRIP}}, {}), "most": ({"expression": sub(name("x"), name("x"))}, {}), "drawn": ({"expressions": {"a": name("x")}}, {}),
    "freed": ({"thing": "x", "low": 0, "high": 4}, {"thing": "BadThing"}), "stepped": ({"action": ("set", "x", name("y"))}, {}),
    "strip_in": ({"thing": "x"}, {"thing": "BadThing"}), "kept": ({"things": ["x"]}, {}), "renamed": ({"names": {"x": "a", "y": "b"}}, {}),
    "is_in": ({"values": {"x": 0, "y": 0}}, {}), "is_below": ({"other": ZONE}, {"other": "BadZone"}), "is_within": ({"other": ZONE}, {"other": "BadZone"}),
    "joined": ({"other": ZONE}, {"other": "BadZone"}), "met": ({"other": ZONE}, {"other": "BadZone"}), "is_zone": ({}, {}),
    "reduced": ({"low": 0, "high": 9, "modulus": 3, "remainder": 1}, dict.fromkeys(("low", "high", "modulus", "remainder"), "BadInteger")),
    "strip_has": ({"n": 3}, {}), "strip_without": ({"n": 3}, {}), "strip_times": ({"n": 3}, {}), "strip_div": ({"n": 3}, {}), "strip_mod": ({"n": 3}, {}),
    "strip_within": ({"other": STRIP}, {"other": "BadStrip"}), "strip_joined": ({"other": STRIP}, {"other": "BadStrip"}),
    "strip_met": ({"other": STRIP}, {"other": "BadStrip"}), "strip_sum": ({"other": STRIP}, {"other": "BadStrip"}),
    "met_papers": ({"other": PAPER}, {}), "is_sharper": ({"other": PAPER}, {}), "chain": ({"other": ("main", 0)}, {}), "is_paper": ({}, {}),
    "sides_of": ({"cuts": [("x", 3)], "numbers": {"x": 2}}, {}), "sided": ({"cuts": [("x", 3)], "sides": (1,)}, {}),
    "open_at": ({"states": [STATE]}, {}), "broken_in": ({"states": [STATE]}, {}), "ends_in": ({"states": [STATE]}, {}),
    "inner_places": ({"head": 9}, {}), "leads": ({"head": 9}, {}), "is_ranking": (LOOPING, {}), "judged_ranking": (LOOPING, {}),
    "rounds_at_most": (LOOPING, {}), "ranking": ({**LOOPING, "ranks": [name("n")]}, {}), "found_ranking": (LOOPING, {}),
    "chance_of_all": ({"some": [[1, 1]], "steps": 9}, {}), "chance_of": ({"why": ("breaks", "main", 7)}, {}),
    "chance_ending": ({"condition": ("lt", OUT, num(3))}, {}), "ending": ({"condition": ("lt", OUT, num(3))}, {}),
    "is_never": ({"condition": ("lt", OUT, num(3))}, {}), "touched": ({"sides": [1, 1], "steps": 9}, {}), "traced": ({}, {}),
    "put_row": ({"first": 0, "ahead": 3}, {}), "cut_row": ({}, {}), "together": ({"summaries": {"half": [ROW]}}, {}), "tried": ({"ranges": []}, {}),
    "read": ({"text": written(P)}, {"text": "BadText BadFunctions"}), "read_paper": ({"text": paper_text(P, PAPER)}, {"text": "BadPaperText"}),
    "reaching": ({"variable": "x"}, {}), "is_closed": ({}, {}), "sliced": ({"edges": slice_of(P, ("main", 7))}, {}),
    "is_open": ({"secrets": [("main", 0)]}, {}), "row_met": ({"f": "half", "numbers": [3]}, {}), "summary": ({"f": "half"}, {}),
    "least_of": ({"factors": [1, 1]}, {}), "greatest_of": ({"factors": [1, 1]}, {}), "Program": ({"functions": P.functions()}, {}),
    "followed_from": ({"f": "half", "sides": []}, {}), "answer_at": ({}, {}), "far_followed": ({}, {}), "plain": ({}, {}), "form_of": ({}, {})}
# whose paper must be one that the judge takes
TAKEN = ("shows", "dead", "known", "answer_at", "folded", "is_ranking", "judged_ranking", "rounds_at_most", "ranking", "found_ranking",
         "judged_depths", "longest", "narrowed", "stands_from")
INDICES = ("BadFunctions", "BadText", "BadPaperText")


def all_functions():
    """(name, function, right values by parameters, error due by parameters) of the whole interface."""
    for module, told_ones in INTERFACE.items():
        for entry in told_ones.split("; "):
            called, _, parameters = entry.rstrip(")").partition("(")
            right, due = OWN.get(called, ({}, {}))
            values = {parameter: {**RIGHT, **right}[parameter] for parameter in parameters.split(", ")}
            errors_due = {parameter: {**DUE, **due}.get(parameter) for parameter in values}
            yield called, getattr(importlib.import_module(f"everypath.{module}"), called), values, errors_due


class ErrorsTest(unittest.TestCase):
    def test_right_values_are_taken_by_place_and_by_name(self):
        for called, function, values, _ in all_functions():
            first = function(*values.values())
            self.assertEqual(function(**values), first)
            for other in (listed, tupled_all):
                self.assertEqual(function(*[other(value) for value in values.values()]), first, called)

    def test_each_error_is_due_for_its_parameter_alone(self):
        for called, function, values, due in all_functions():
            for at, parameter in enumerate(values):
                for thing in [thing for thing in any_objects() if type(thing) is not int or thing < 1000]:
                    given = {**values, parameter: thing}
                    try:
                        function(**given)
                    except RunError as error:
                        # what is right by itself may make wrong what stands behind it, steps the sides ahead of it
                        others = list(given)[at - 1:] if parameter in ("steps", "leaps") and "sides" in given else list(given)[at:]
                        fitting = [other for other in others if type(error).__name__ in (due[other] or "").split()]
                        self.assertNotEqual(fitting, [], (called, parameter, thing, error))
                        if type(error).__name__ not in INDICES:
                            kept = list(vars(error).values())[0]
                            self.assertTrue(any(kept is given[other] for other in fitting), (called, parameter, thing))

    def test_the_first_error_is_due(self):
        for called, function, values, due in all_functions():
            wrong = list(values)
            for at, parameter in enumerate(values):
                if due[parameter] is None:
                    continue
                with self.assertRaises(RunError) as caught:
                    function(**{**values, **dict.fromkeys(wrong[at:], len)})
                self.assertIn(type(caught.exception).__name__, due[parameter].split(), (called, parameter))
                if due[parameter].split()[0] not in INDICES:
                    self.assertIs(list(vars(caught.exception).values())[0], len)

    def test_papers_that_are_not_taken(self):
        bad = listed(PAPER)
        bad[1]["half"] = None
        why = judged(P, bad)
        self.assertIsNotNone(why)
        for called, function, values, due in all_functions():
            if "paper" not in values:
                continue
            behind = list(values)[2:]
            arguments = {**values, "program": P, "paper": bad, **{key: len for key in behind if key != "rounds"}}
            if called in TAKEN:
                with self.assertRaises(NotTaken) as caught:
                    function(**arguments)
                self.assertEqual(shape(caught.exception.why), shape(why))
            else:
                right = {**values, "paper": bad} if values["program"] is P else values
                function(**right)

    def test_each_error_is_named(self):
        named = {name for _, _, _, due in all_functions() for part in due.values() if part for name in part.split()}
        self.assertEqual(named | {"NotTaken", "NotRanked", "NotDeep"}, {*ERRORS, *REFUSALS})
        for module, names in ((errors, ERRORS), (refusals, REFUSALS)):
            for one in names:
                self.assertTrue(issubclass(getattr(module, one), RunError))


class Called:
    """Functions and names called otherwise."""

    def __init__(self, functions, names):
        self.functions = functions
        self.names = names

    def tree(self, tree):
        if isinstance(tree, (list, tuple)):
            if len(tree) == 2 and tree[0] == "name":
                return ("name", self.names[tree[1]])
            if tree and tree[0] in ("set", "any", "call") and len(tree) > 2:
                rest = list(tree[2:])
                if tree[0] == "call":
                    rest = [self.functions[tree[2]], self.tree(tree[3])]
                return (tree[0], self.names[tree[1]], *([self.tree(part) for part in rest] if tree[0] == "set" else rest))
            return type(tree)([self.tree(part) for part in tree])
        return tree

    def program(self, program, order):
        found = [(self.functions[f], [self.names[x] for x in params], self.tree(statements))
                 for f, params, statements in program.functions()]
        return Program([found[at] for at in order])

    def thing(self, thing):
        """A name, or a thing of a zone."""
        for end in ("", "0", "1"):
            if thing.endswith(end) and thing[:len(thing) - len(end)] in self.names:
                return self.names[thing[:len(thing) - len(end)]] + end
        return thing

    def zone(self, zone):
        if zone is None:
            return None
        things, bounds, rests = zone
        return (sorted(self.thing(x) for x in things), {(self.thing(u), self.thing(v)): bound for (u, v), bound in bounds.items()},
                {self.thing(x): rest for x, rest in rests.items()})

    def paper(self, paper):
        cuts, entries, exits, cells = paper
        return ({self.functions[f]: [(self.names[x], n) for x, n in cuts[f]] for f in cuts},
                {self.functions[f]: self.zone(entries[f]) for f in entries}, {self.functions[f]: self.zone(exits[f]) for f in exits},
                {self.functions[f]: [{row: self.zone(rows[row]) for row in rows} for rows in cells[f]] for f in cells})

    def why(self, why):
        return (why[0], self.functions[why[1]], why[2]) if why[0] in ("breaks", "barred") else why

    def edge(self, edge):
        return (self.functions[edge[0]], edge[1])


class WholeTest(unittest.TestCase):
    def test_called_otherwise_and_in_another_order(self):
        source = random.Random(1)
        for program in [P, LOOP] + [random_program(source) for _ in range(12)]:
            functions = [f for f, _, _ in program.functions()]
            names = sorted({x for f in functions for x in names_of(program, f)})
            new = source.sample(["zz", "ya", "q", "b", "aa", "m", "nn", "k"], len(names))
            called = Called({**{f: f + "x" for f in functions}, "main": "main"}, dict(zip(names, new)))
            order = source.sample(range(len(functions)), len(functions))
            other = called.program(program, order)
            self.tells_the_same(program, other, called, random_cuts(program, source))

    def tells_the_same(self, program, other, called, cuts):
        for f in called.functions:
            self.assertEqual(places(other, called.functions[f]), places(program, f))
            self.assertEqual(heads(other, called.functions[f]), heads(program, f))
            self.assertEqual(leads_of(other, called.functions[f]), [called.tree(lead) for lead in leads_of(program, f)])
            for place in range(places(program, f)):
                self.assertEqual(hanging(other, called.functions[f], place), hanging(program, f, place))
        for steps in (9, 30):
            found = paths(program, steps, 60)
            again = paths(other, steps, 60)
            self.assertEqual(again, found and [(sides, called.why(why), inputs) for sides, why, inputs in found])
            self.assertEqual(cover(other, steps, 60), cover(program, steps, 60))
            if found is not None and len(found) < 20:
                self.assertEqual(chances(other, steps, 60), chances(program, steps, 60))
                self.assertEqual(least_outcome(other, steps, 60), least_outcome(program, steps, 60))
                self.assertEqual(tests(other, steps, 60), tests(program, steps, 60))
                self.assertEqual(untested(other, steps, 60), sorted(called.edge(edge) for edge in untested(program, steps, 60)))
            word = compared(program, other, steps, 60)
            self.assertIn(word and word[0], (None, "alike", "so far"))
        moved = {called.functions[f]: [(called.names[x], n) for x, n in cuts[f]] for f in cuts}
        paper = least_paper(program, [-3, 0, 5], cuts)
        self.assertEqual(least_paper(other, [-3, 0, 5], moved), called.paper(paper))
        self.assertEqual(pushes(other, [-3, 0, 5], moved), pushes(program, [-3, 0, 5], cuts))
        self.assertEqual(narrowed(other, called.paper(paper), 2), called.paper(narrowed(program, paper, 2)))
        self.assertEqual(sorted(dead(other, called.paper(paper))), sorted(called.edge(pair) for pair in dead(program, paper)))
        for edge in assertions(program):
            self.assertEqual(sorted(slice_of(other, called.edge(edge))), sorted(called.edge(part) for part in slice_of(program, edge)))
            self.assertEqual(verdict(other, called.edge(edge), [0], moved, 1, 20, 30)[0], verdict(program, edge, [0], cuts, 1, 20, 30)[0])

    def test_written_and_read(self):
        source = random.Random(2)
        for program in [P, LOOP] + [random_program(source) for _ in range(10)]:
            again = read(written(program))
            self.assertEqual(again, program)
            self.assertEqual(again.functions(), program.functions())
            for f, _, _ in program.functions():
                self.assertEqual(shape(edges(again, f)), shape(edges(program, f)))
                self.assertEqual(summary(again, f, 9, 50), summary(program, f, 9, 50))
            self.assertEqual(cover(again, 20, 60), cover(program, 20, 60))
            cuts = random_cuts(program, source)
            self.assertEqual(least_paper(again, [0, 4], cuts), least_paper(program, [0, 4], cuts))
            self.assertEqual(compared(again, program, 20, 40), compared(program, program, 20, 40))

    def test_the_promise(self):
        """[1.2]: all runs within the bound go along just one path of whatever cover is taken."""
        source = random.Random(3)
        for program in [P, LOOP] + [random_program(source) for _ in range(12)]:
            steps = source.choice((7, 15, 40))
            runs = all_runs(program, steps, 500)
            tree = cover(program, steps, 400)
            if runs is None or tree is None:
                continue
            self.assertIsNone(judged_cover(program, steps, tree))
            ends = [(sides, inputs) for sides, inputs in ends_of(tree)]
            for inputs, sides, why in runs:
                self.assertEqual([along for along, _ in ends if along == sides], [sides])
            for sides, inputs in ends:
                self.assertEqual(path_of(program, inputs, steps)[0], sides)
            if closed_by(program, steps, 400):
                for inputs, sides, why in runs:
                    self.assertNotEqual(why, ("going",))
                    self.assertEqual(path_of(program, inputs, 10 ** 6)[1], why)

    def test_examples_of_loops(self):
        self.assertEqual((heads(LOOP, "main"), inner_places(LOOP, "main", 3)), ([3], [4, 5]))
        lead = ("sub", ("sub", name("n"), num(0)), num(1))
        self.assertEqual(leads(LOOP, "main", 3), [lead])
        self.assertEqual(RANKING[0], [lead])
        self.assertIsNone(judged_ranking(LOOP, LOOP_PAPER, "main", 3, RANKING))
        self.assertEqual(rounds_at_most(LOOP, LOOP_PAPER, "main", 3, RANKING), 9)
        self.assertIsNone(judged_depths(LOOP, LOOP_PAPER, {"main": num(0)}))
        self.assertEqual(longest(LOOP, LOOP_PAPER, {("main", 3): RANKING}, {"main": num(0)}), 32)
        steps = longest(LOOP, LOOP_PAPER, {("main", 3): RANKING}, {"main": num(0)})
        for n in range(10):
            self.assertEqual(played(LOOP, [n], steps)[0][0], "ends")
        self.assertEqual(compared(LOOP, folded(LOOP, LOOP_PAPER), steps + 1, 40)[0], "alike")

    def test_examples_of_layers(self):
        program = read("def main() { x = any(0, 2); while x < 4 { x = x + 2; } assert x == 4; return x; }")
        why, found = layers(program, 21, 3)
        self.assertEqual((why, [len(layer) for layer in found]), (("closed",), [1, 3, 3, 3, 3, 2, 2, 2, 1, 1]))
        self.assertEqual(layers(program, 16, 3), (("many",), found[:6]))
        self.assertEqual(layers(program, 21, 2), (("wide", "main", 0), found[:1]))
        self.assertEqual(first_break(program, ("main", 6), 21, 3), [1])
        states = [state for layer in found for state in layer]
        self.assertEqual((broken_in(program, states), ends_in(program, states)), ([("main", 6)], [4]))
        self.assertEqual(way_to(program, [("main", 3, {"x": 4})], 21, 3), [2])

    def test_examples_of_two_programs(self):
        program = read("def main() { x = any(0, 3); if x < 2 { x = 2 * x; } else { x = x + x; } print x; return 0; }")
        other = read("def main() { y = any(0, 3); print 2 * y; return 0; }")
        self.assertEqual(compared(program, other, 20, 9), ("alike", ("one", ("end",), ("end",))))
        self.assertIsNone(judged_tree(program, other, 20, ("one", ("end",), ("end",))))
        self.assertEqual(trace(program, [1], 20), [("asks", 0, 3), ("prints", 2), ("ends", 0)])
        more = read("def main() { y = any(0, 3); print y + 2; return 0; }")
        self.assertIs(is_parting(program, more, [1], 20), True)
        self.assertIs(is_parting(program, more, [2], 20), False)
        self.assertEqual(unlike_from(program, more, 20, 9), 5)

    def test_alike_goes_on_from_one_to_the_next(self):
        one = read("def main() { x = any(0, 9); if x < 3 { print 2 * x; } else { print x - 1; } return x mod 3; }")
        two = read("def f(k) { return k - k // 3 * 3; } def main() { y = any(0, 9); if y >= 3 { print y - 1; } else { print y + y; } "
                   "z = f(y); return z; }".replace("k // 3 * 3", "3 * (k // 3)"))
        three = read("def main() { x = any(0, 9); y = x; if x <= 2 { y = 2 * x; } else { y = x - 1; } print y; while x > 2 { x = x - 3; } "
                     "return x; }")
        for a, b in ((one, two), (two, three), (one, three), (three, one)):
            self.assertEqual(compared(a, b, 60, 60)[0], "alike")
            self.assertIsNone(unlike_from(a, b, 60, 60))
            for n in range(10):
                self.assertIs(is_parting(a, b, [n], 60), False)

    def test_more_steps_than_the_longest_tell_all(self):
        source = random.Random(5)
        words = []
        programs = []
        while len(programs) < 8:
            program = random_program(source)
            if not any(heads(program, f) for f, _, _ in program.functions()):
                programs.append(program)
        for program, other in zip(programs, programs[1:] + programs[:1]):
            steps = []
            for one in (program, other):
                functions = [f for f, _, _ in one.functions()]
                paper = least_paper(one, [0], {f: [] for f in functions})
                steps.append(longest(one, paper, {}, {f: num(0) for f in functions}))
            for a, b in ((program, other), (program, program)):
                found = compared(a, b, max(steps) + 1, 90)
                words.append(found and found[0])
        self.assertNotIn("so far", words)
        self.assertGreater(words.count("alike"), 2)

    def test_examples_of_paths(self):
        self.assertEqual(shape(told(self, paths, program=P, steps=9, many=10)), shape([
            ([0, 0, 0], ("going",), [16]), ([0, 1], ("breaks", "main", 7), [18]), ([1, 0, 0], ("going",), [5]),
            ([1, 0, 1], ("ends", 0), [0]), ([1, 1], ("breaks", "main", 7), [6])]))
        self.assertEqual((closed_by(P, 28, 40), broken(P, 28, 40)), (True, [(("main", 7), [18])]))
        self.assertEqual(edges(P, "half"), [(0, 1, ("return", ("div", name("a"), 2))), (2, 1, ("return", num(0)))])
        self.assertEqual((places(P, "main"), len(edges(P, "main"))), (14, 15))

    def test_examples_of_leaps(self):
        program = read("def main() { n = any(0, 100); x = 0; while x < n { x = x + 3; } assert x < 102; }")
        self.assertEqual(gains(program, "main", 4), {"n": 0, "x": 3})
        self.assertEqual(far_paths(program, 9, 9), [([0, 0], ("ends", 0), [1, 1]), ([0, 1], ("breaks", "main", 7), [100, 34]),
                                                   ([1, 0], ("ends", 0), [0])])
        self.assertEqual((all_told(program, 9, 9), endless(program, 9, 9), far_longest(program, 9, 9)), (True, [], (106, [100])))
        self.assertEqual(far_followed(program, [0], 9)[1], [(0, 100), (1, 34)])
        flat = read("def main() { n = any(0, 100); x = 0; while x < n { n = n + 1; } assert x < 102; }")
        self.assertEqual(endless(flat, 9, 9), [("main", 4, [1])])
        self.assertIsNotNone(far_cover(flat, 9, 9))

    def test_verdicts_are_true_of_all_runs(self):
        source = random.Random(4)
        for program in [P] + [random_program(source) for _ in range(8)]:
            runs = all_runs(program, 60, 300)
            for assertion in assertions(program):
                found = verdict(program, assertion, [-2, 0, 4], random_cuts(program, source), 1, 30, 60)
                self.assertIs(is_verdict(program, assertion, found), found[0] != "open")
                if found[0] == "unsafe":
                    self.assertTrue(breaking(program, assertion, found[1], 30))
                if found[0] == "safe":
                    self.assertFalse([why for _, _, why in runs or [] if why == ("breaks", *assertion)])


def leads_of(program, f):
    return [lead for head in heads(program, f) for lead in leads(program, f, head)]


def ends_of(tree, sides=()):
    if tree[0] == "path":
        yield list(sides), tree[1]
    if tree[0] == "sides":
        for side in (0, 1):
            yield from ends_of(tree[1 + side], (*sides, side))


if __name__ == "__main__":
    unittest.main()

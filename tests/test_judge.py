"""[9.5] to [9.8], and [9.10] but for its last sentence: what papers demand, the judge, what lies in papers."""

import copy
import random
import unittest

from everypath.callsteps import begun, called, come_back, returned
from everypath.errors import BadOther, BadPaper, BadProgram, BadState
from everypath.graphs import edges, places
from everypath.judge import demands, judged, lies, met_papers
from everypath.papers import is_paper, sided
from everypath.programs import Program
from everypath.runs import played
from everypath.zones import closed, is_below, is_in, met
from everypath.zonesteps import stepped
from tests.helpers import X, any_objects, refused, shape, told, tupled_all
from tests.samples import all_runs, empty, taken_paper
from tests.test_paths import random_program
from tests.texts import main_of, program_in

SMALL = Program([("main", [], [("any", "x", 0, 3), ("return", X)])])
ZERO = (["x"], {("x", "0"): 0, ("0", "x"): 0}, {"x": (0, 0)})
LADDER = [-20, -6, -1, 0, 1, 5, 30]
CALLS = program_in("""
    def sum(n, k) { if n <= 0 { return k; } k = sum(n - 1, k + n); return k; }
    def main() { x = any(0, 3); y = sum(x, 1); while y > 2 { y = y - 2; } assert y < 3; z = twice(y); print z; return z; }
    def twice(n) { n = n + n; m = n - 1; return m + 1; }""")


def small_paper(high=3):
    return ({"main": []}, {"main": ([], {}, {})},
            {"main": (["="], {("=", "0"): high, ("0", "="): 0}, {"=": (1, 0)})},
            {"main": [{(): ZERO}, {}, {(): (["x"], {("x", "0"): 3, ("0", "x"): 0}, {"x": (1, 0)})}, {}]})


def parted(zone, cuts):
    rows = [()]
    for _ in cuts:
        rows = [(*row, side) for row in rows for side in (0, 1)]
    found = [(row, sided(zone, cuts, row)) for row in rows]
    return [(row, part) for row, part in found if part is not None]


def by_the_words(program, paper):
    """What a paper demands, written straight along [9.5]."""
    cuts, entries, exits, cells = paper
    found = [(("begin",), ("entry", "main"), ([], {}, {}))]
    for f, _, _ in program.functions():
        if entries[f] is not None:
            found += [(("enter", f), ("cell", f, 0, row), zone)
                      for row, zone in parted(begun(program, f, entries[f]), cuts[f])]
        for place in range(places(program, f)):
            for row in sorted(cells[f][place]):
                for number, (start, end, action) in enumerate(edges(program, f)):
                    if start == place:
                        found += along(program, paper, (f, number, row), end, action)
    return [demand for demand in found if demand[2] is not None]


def along(program, paper, origin, end, action):
    (f, number, row), (cuts, _, exits, cells) = origin, paper
    zone = cells[f][edges(program, f)[number][0]][row]
    if action[0] == "return":
        return [(("return", *origin), ("exit", f), closed(returned(program, f, zone, action[1])))]
    if action[0] != "call":
        return [(("step", *origin), ("cell", f, end, to), part) for to, part in parted(stepped(zone, action), cuts[f])]
    _, x, g, handed = action
    found = [(("call", *origin), ("entry", g), closed(called(program, f, zone, g, handed)))]
    if exits[g] is not None:
        behind = come_back(program, f, zone, x, g, handed, exits[g])
        found += [(("back", *origin), ("cell", f, end, to), part) for to, part in parted(behind, cuts[f])]
    return found


class JudgeTest(unittest.TestCase):
    def test_example(self):
        whys = [("begin",), ("enter", "main"), ("step", "main", 0, ()), ("return", "main", 1, ())]
        found = told(self, demands, program=SMALL, paper=small_paper())
        self.assertEqual([why for why, _, _ in found], whys)
        self.assertEqual(found[0], (("begin",), ("entry", "main"), ([], {}, {})))
        self.assertEqual(found[2][1:], (("cell", "main", 2, ()), small_paper()[3]["main"][2][()]))
        self.assertIsNone(told(self, judged, program=SMALL, paper=small_paper()))
        wrong = small_paper(2)
        self.assertEqual(shape(told(self, judged, program=SMALL, paper=wrong)),
                         shape((("return", "main", 1, ()), ("exit", "main"))))

    def test_words(self):
        source = random.Random(1)
        for _ in range(15):
            program = random_program(source)
            cuts = {"main": [("x", 1), ("z", -2)], "g": [("c", 2)]} if source.random() < 0.6 else {}
            paper = taken_paper(program, LADDER, cuts)
            self.assertEqual(shape(demands(program, paper)), shape(by_the_words(program, paper)))
            self.assertIsNone(judged(program, paper))
        paper = taken_paper(CALLS, LADDER, {"main": [("y", 2)], "sum": [("n", 1), ("k", 3)]})
        found = told(self, demands, program=CALLS, paper=paper)
        self.assertEqual(shape(found), shape(by_the_words(CALLS, paper)))
        self.assertEqual({why[0] for why, _, _ in found}, {"begin", "enter", "step", "return", "call", "back"})
        self.assertIn((0, 1), [where[-1] for _, where, _ in found])

    def test_nothing_is_demanded_of_what_is_empty(self):
        program = main_of("x = any(0, 3); if x > 5 { print x; } return x;")
        paper = taken_paper(program, [0, 3], {})
        none_left = (["x"], {("x", "0"): -1, ("0", "x"): 0}, {"x": (1, 0)})
        self.assertEqual((paper[3]["main"][3], paper[3]["main"][4]), ({}, {}))
        paper[3]["main"][3][()] = none_left
        self.assertEqual([why[2] for why, _, _ in demands(program, paper) if why[0] == "step"], [0, 3, 5])
        self.assertIsNone(judged(program, paper))
        nobody = empty(program, {})
        self.assertEqual(shape(demands(program, nobody)), shape([(("begin",), ("entry", "main"), ([], {}, {}))]))
        self.assertEqual(judged(program, nobody), (("begin",), ("entry", "main")))
        nobody[1]["main"] = ([], {}, {})
        self.assertEqual(judged(program, nobody), (("enter", "main"), ("cell", "main", 0, ())))

    def test_nobody_returns(self):
        program = program_in("def f(a) { while a == a { a = a + 1; } } def main() { x = f(3); return x; }")
        paper = taken_paper(program, [], {})
        self.assertIsNone(paper[2]["f"])
        self.assertEqual([why for why, _, _ in demands(program, paper) if why[0] in ("call", "back")],
                         [("call", "main", 0, ())])
        self.assertEqual(paper[3]["main"][2], {})
        self.assertIsNone(judged(program, paper))
        paper[2]["f"] = (["=", "a0"], {("=", "0"): -1, ("0", "="): 0}, {"=": (1, 0), "a0": (1, 0)})
        self.assertIsNone(judged(program, paper))
        paper[2]["f"] = (["=", "a0"], {}, {"=": (1, 0), "a0": (1, 0)})
        self.assertEqual(judged(program, paper), (("back", "main", 0, ()), ("cell", "main", 2, ())))

    def test_zones_in_papers_stand_as_they_are(self):
        wider = small_paper()
        wider[2]["main"] = (["="], {("=", "0"): 7}, {"=": (1, 0)})
        self.assertIsNone(judged(SMALL, wider))
        never = (["="], {("=", "0"): 3, ("0", "="): -4}, {"=": (1, 0)})
        wider[2]["main"] = never
        self.assertEqual(judged(SMALL, wider)[0][0], "return")
        wider = small_paper()
        wider[3]["main"][0][()] = (["x"], {}, {"x": (2, 0)})
        self.assertIsNone(judged(SMALL, wider))
        wider[3]["main"][0][()] = (["x"], {}, {"x": (2, 1)})
        self.assertEqual(judged(SMALL, wider), (("enter", "main"), ("cell", "main", 0, ())))

    def test_each_zone_taken_away(self):
        paper = taken_paper(CALLS, LADDER, {"main": [("y", 2)], "sum": [("n", 1)]})
        asked = demands(CALLS, paper)
        for _, where, _ in asked:
            less = copy.deepcopy(paper)
            if where[0] == "cell":
                del less[3][where[1]][where[2]][where[3]]
            else:
                less[1 if where[0] == "entry" else 2][where[1]] = None
            why, place = told(self, judged, program=CALLS, paper=less)
            first = [(w, at) for w, at, zone in demands(CALLS, less) if not self.holds(less, at, zone)][0]
            self.assertEqual((why, place), first)

    def holds(self, paper, where, zone):
        if where[0] == "cell":
            there = paper[3][where[1]][where[2]].get(where[3])
        else:
            there = paper[1 if where[0] == "entry" else 2][where[1]]
        return there is not None and is_below(zone, there)

    def test_every_run_lies_in_what_is_taken(self):
        source = random.Random(2)
        programs = [CALLS] + [random_program(source) for _ in range(12)]
        for program in programs:
            cuts = {f: [(names[0], 1)] for f, names in ((f, sorted(program.names[f])) for f in program.names) if names}
            paper = taken_paper(program, LADDER, cuts)
            for inputs, _, _ in (all_runs(program, 30, 400) or [])[::7]:
                for state in played(program, inputs, 30)[1]:
                    self.assertIs(lies(program, paper, state), True)

    def test_exits_have_what_is_returned(self):
        paper = taken_paper(CALLS, LADDER, {})
        for inputs, _, why in all_runs(CALLS, 200, 400):
            self.assertTrue(is_in(paper[2]["main"], {"=": why[1]}))
            for before, behind in zip(played(CALLS, inputs, 200)[1], played(CALLS, inputs, 200)[1][1:]):
                if len(behind) < len(before) and before[-1][0] == "twice":
                    below = before[-2][2]
                    self.assertTrue(is_in(paper[2]["twice"], {"=": behind[-1][2]["z"], "n0": below["y"]}))

    def test_lies(self):
        paper = small_paper()
        for state, found in (([("main", 0, {"x": 0})], True), ([("main", 0, {"x": 1})], False),
                             ([("main", 2, {"x": 3})], True), ([("main", 2, {"x": 4})], False),
                             ([("main", 3, {"x": 0})], False)):
            self.assertIs(told(self, lies, program=SMALL, paper=paper, state=state), found)
        program = program_in("def f(a, b) { a = 9; return b; } def main() { x = f(x + 1, 2); return x; }")
        rests = {"a": (1, 0), "a0": (1, 0), "b": (1, 0), "b0": (1, 0)}
        paper = empty(program, {})
        paper[3]["main"][0] = {(): (["x"], {}, {"x": (1, 0)})}
        paper[3]["f"][2] = {(): (["a", "a0", "b", "b0"], {("a0", "0"): 5, ("0", "a0"): -5}, {**rests, "b0": (0, 2)})}
        for x, found in ((4, True), (5, False), (3, False)):
            state = [("main", 0, {"x": x}), ("f", 2, {"a": 9, "b": -7})]
            self.assertIs(told(self, lies, program=program, paper=paper, state=state), found)
        self.assertIs(lies(program, paper, [("main", 2, {"x": 4})]), False)
        paper[0]["main"] = [("x", 5)]
        paper[3]["main"][0] = {(0,): paper[3]["main"][0][()]}
        self.assertIs(lies(program, paper, [("main", 0, {"x": 4})]), True)
        self.assertIs(lies(program, paper, [("main", 0, {"x": 5})]), False)

    def test_met_papers(self):
        one = taken_paper(CALLS, LADDER, {"main": [("y", 2)]})
        other = taken_paper(CALLS, [-3, -2, 0, 2, 9], {"main": [("y", 2)]})
        found = told(self, met_papers, program=CALLS, paper=one, other=other)
        self.assertIs(is_paper(CALLS, found), True)
        self.assertIsNone(judged(CALLS, found))
        self.assertEqual(found[0], one[0])
        for f in one[0]:
            self.assertEqual(found[1][f], met(one[1][f], other[1][f]))
            self.assertEqual(found[2][f], met(one[2][f], other[2][f]))
            for cells, left, right in zip(found[3][f], one[3][f], other[3][f]):
                self.assertEqual(cells, {row: met(left[row], right[row]) for row in left if row in right})
        self.assertEqual(met_papers(SMALL, small_paper(), empty(SMALL, {})), empty(SMALL, {}))
        odd = small_paper()
        odd[3]["main"][0][()] = (["x"], {}, {"x": (2, 1)})
        self.assertEqual(met_papers(SMALL, small_paper(), odd)[3]["main"][0], {})
        none_left = small_paper()
        none_left[3]["main"][0][()] = (["x"], {("x", "0"): -1}, {"x": (1, 0)})
        self.assertEqual(met_papers(SMALL, small_paper(), none_left)[3]["main"][0],
                         {(): (["x"], {("x", "0"): -1, ("0", "x"): 0}, {"x": (0, 0)})})

    def test_refusals(self):
        paper, state = small_paper(), [("main", 0, {"x": 0})]
        for thing in any_objects():
            if not isinstance(thing, Program):
                refused(self, BadProgram, thing, demands, thing, None)
                refused(self, BadProgram, thing, judged, thing, None)
                refused(self, BadProgram, thing, lies, thing, None, None)
                refused(self, BadProgram, thing, met_papers, thing, None, None)
            for function, others in ((demands, ()), (judged, ()), (lies, (None,)), (met_papers, (None,))):
                refused(self, BadPaper, thing, function, SMALL, thing, *others)
            refused(self, BadOther, thing, met_papers, SMALL, paper, thing)
            refused(self, BadState, thing, lies, SMALL, paper, thing)
        for thing in (taken_paper(SMALL, [0, 3], {"main": [("x", 1)]}), taken_paper(CALLS, LADDER, {}), paper[:3]):
            refused(self, BadOther, thing, met_papers, SMALL, paper, thing)
        for thing in ([], state + state, [("main", 1, {"x": 0})], [("main", 4, {"x": 0})], [("main", 0, {})],
                      [("main", 0, {"x": 0, "y": 0})], [("main", 0, {"x": True})], [("main", True, {"x": 0})],
                      [("main", -1, {"x": 0})], [("man", 0, {"x": 0})], [("main", 0)], ("main", 0, {"x": 0})):
            refused(self, BadState, thing, lies, SMALL, paper, thing)
        self.assertIs(lies(SMALL, paper, tupled_all(state)), True)


if __name__ == "__main__":
    unittest.main()

"""[16.1], [16.2], and what the example [16.8] says of them: feeds and visits."""

import random
import unittest

from everypath.errors import BadInputs, BadNames, BadProgram, BadSteps
from everypath.feeds import fed, visits
from everypath.graphs import edges
from everypath.programs import Program
from everypath.reading import read
from everypath.refusals import BadEdge, BadFeeds
from everypath.runs import played
from tests.helpers import any_objects, p_program, refused, shape, told
from tests.test_paths import random_program
from tests.test_runs import NOT_INPUTS, NOT_STEPS

TWO = read("""def main ( ) { x = any ( 0 , 9 ) ; y = any ( 0 , 9 ) ; n = 0 ;
              while n < x { n = n + 1 ; y = y + 2 ; } assert n <= 9 ; }""")
OFTEN = read("""def draw(k) { r = any(-1, 3); return r + k; }
                def main() { a = draw(0); while a > 0 { b = any(0, 1); a = draw(b - 1); print a; } return b; }""")
A, B = ("draw", 0), ("main", 3)
NOT_EDGES = [("main", 11), ("main", -1), ("main", True), ("man", 0), ("main",), ("main", 0, 0), "main", ("main", "0")]


def anys(program):
    return [(f, number) for f, _, _ in program.functions() for number, edge in enumerate(edges(program, f))
            if edge[2][0] == "any"]


def fed_words(program, feeds, steps):
    """The inputs of the run that is fed, found by going one input further as long as the run asks."""
    left = {edge: list(row) for edge, row in feeds.items()}
    inputs = []
    while True:
        why, states = played(program, inputs, steps)
        if why[0] != "asks":
            return inputs
        row = left.get(why[1:], [])
        _, _, (_, _, low, high) = edges(program, why[1])[why[2]]
        if not row or not low <= row[0] <= high:
            return inputs
        inputs.append(row.pop(0))


def visits_words(program, edge, names, inputs, steps):
    start = edges(program, edge[0])[edge[1]][0]
    return [tuple(state[-1][2].get(name, 0) for name in names) for state in played(program, inputs, steps)[1]
            if state[-1][:2] == (edge[0], start)]


class FeedsTest(unittest.TestCase):
    def test_example(self):
        feeds = {("main", 0): [2], ("main", 1): [7]}
        self.assertEqual(told(self, fed, program=TWO, feeds=feeds, steps=99), [2, 7])
        found = told(self, visits, program=TWO, edge=("main", 4), names=["n", "x"], inputs=[2, 7], steps=99)
        self.assertEqual(shape(found), shape([(0, 2), (1, 2), (2, 2)]))

    def test_feeds_run_out_or_lie_out_of_the_range(self):
        self.assertEqual(edges(OFTEN, *B[:1])[B[1]][2][0], "any")
        for feeds, inputs in (({}, []), ({A: []}, []), ({A: [0, 3]}, [0]), ({A: [2]}, [2]), ({A: [4, 1]}, []),
                              ({A: [-2]}, []), ({A: [-1]}, [-1]), ({A: [1, 2, 9], B: [0, 1, 0]}, [1, 0, 2, 1]),
                              ({A: [3, 3], B: [1, 2, 0]}, [3, 1, 3]), ({B: [0, 0]}, []), ({A: (1, 0), B: (1,)}, [1, 1, 0])):
            self.assertEqual(told(self, fed, program=OFTEN, feeds=feeds, steps=200), inputs)
            why = played(OFTEN, fed(OFTEN, feeds, 200), 200)[0]
            self.assertIn(why[0], ("asks", "ends"))

    def test_steps(self):
        feeds = {A: [1, 2, 3, -1], B: [1, 1, 1]}
        whole = fed(OFTEN, feeds, 200)
        self.assertEqual(whole, [1, 1, 2, 1, 3, 1, -1])
        before = []
        for steps in range(60):
            found = fed(OFTEN, feeds, steps)
            self.assertEqual(found[:len(before)], before)
            self.assertLessEqual(len(found), len(before) + 1)
            before = found
        self.assertEqual((fed(OFTEN, feeds, 0), fed(OFTEN, feeds, 1), fed(OFTEN, feeds, 2)), ([], [], [1]))
        self.assertEqual(before, whole)

    def test_by_the_words(self):
        source = random.Random(1)
        for program in [TWO, OFTEN, p_program()] + [random_program(source) for _ in range(30)]:
            for _ in range(6):
                feeds = {edge: [source.randrange(-4, 5) for _ in range(source.randrange(6))]
                         for edge in anys(program) if source.random() < 0.9}
                steps = source.choice((0, 3, 20, 90))
                inputs = fed(program, feeds, steps)
                self.assertEqual(inputs, fed_words(program, feeds, steps))
                for f, _, _ in program.functions():
                    edge = (f, source.randrange(len(edges(program, f))))
                    names = [source.choice(("x", "y", "z", "a", "c", "k")) for _ in range(source.randrange(4))]
                    self.assertEqual(visits(program, edge, names, inputs, steps),
                                     visits_words(program, edge, names, inputs, steps))

    def test_visits(self):
        self.assertEqual(told(self, visits, program=p_program(), edge=("half", 0), names=["a", "x", "a"], inputs=[9], steps=40),
                         [(9, 0, 9)])
        self.assertEqual(visits(p_program(), ("main", 1), [], [9], 40), [()])
        self.assertEqual(visits(p_program(), ("main", 2), ["y"], [9], 3), [(4,)])
        self.assertEqual(visits(p_program(), ("main", 2), ["y"], [9], 2), [])
        self.assertEqual(visits(p_program(), ("main", 4), ["y"], [9], 3), [(4,)])
        self.assertEqual(visits(p_program(), ("main", 0), ["x"], [], 40), [(0,)])
        self.assertEqual(visits(p_program(), ("main", 0), ["x"], [], 0), [(0,)])
        self.assertEqual(visits(p_program(), ("main", 7), ["x", "y"], [6], 40), [(6, 3)])
        self.assertEqual(visits(p_program(), ("main", 13), ["x"], [9], 40), [(3,)])
        self.assertEqual(visits(p_program(), ("half", 1), ["a"], [9], 40), [])
        self.assertEqual(told(self, visits, program=p_program(), edge=["main", 8], names=("x",), inputs=(10,), steps=99), [(10,)])
        self.assertEqual(visits(p_program(), ("main", 9), ["x"], [10], 99), [(10,), (7,), (4,)])

    def test_refusals(self):
        for thing in any_objects():
            if not isinstance(thing, Program):
                refused(self, BadProgram, thing, fed, thing, None, None)
                refused(self, BadProgram, thing, visits, thing, None, None, None, None)
            if thing != {}:
                refused(self, BadFeeds, thing, fed, TWO, thing, None)
            refused(self, BadEdge, thing, visits, TWO, thing, None, None, None)
            if thing not in ([], (), ("x", "y", "z"), ("number",)):
                refused(self, BadNames, thing, visits, TWO, ("main", 0), thing, None, None)
            if thing not in ([], ()):
                wrong = {("main", 0): thing}
                if thing != [0, 1, 2, 3]:
                    refused(self, BadFeeds, wrong, fed, TWO, wrong, None)
        for edge in [("main", 2), ("main", 11), ("main", -1), ("main", True), ("man", 0), ("main",), "main", 0, None]:
            wrong = {edge: []}
            refused(self, BadFeeds, wrong, fed, TWO, wrong, None)
        wrong = {("main", 0): [1], ("main", 1): [True]}
        refused(self, BadFeeds, wrong, fed, TWO, wrong, None)
        for thing in NOT_EDGES:
            refused(self, BadEdge, thing, visits, TWO, thing, None, None, None)
        for thing in (["x", "Y"], [""], ["abcdefghi"], ["mod"], ["x0"], [None], [["x"]], "x", "xy", {"x": 1}):
            refused(self, BadNames, thing, visits, TWO, ("main", 0), thing, None, None)
        for thing in NOT_INPUTS:
            refused(self, BadInputs, thing, visits, TWO, ("main", 0), ["x"], thing, None)
        for thing in NOT_STEPS:
            refused(self, BadSteps, thing, fed, TWO, {}, thing)
            refused(self, BadSteps, thing, visits, TWO, ("main", 0), ["x"], [], thing)


if __name__ == "__main__":
    unittest.main()

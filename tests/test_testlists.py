"""[21.7], [21.8], and the last sentence of [21.9]: touched edges, tests."""

import itertools
import random
import unittest

from everypath.covers import paths
from everypath.errors import BadProgram, BadSides, BadSteps
from everypath.graphs import edges
from everypath.paths import followed
from everypath.programs import Program
from everypath.reading import read
from everypath.refusals import BadMany
from everypath.runs import played
from everypath.testlists import fewest_of_each, tests, touched, untested
from tests.helpers import any_objects, p_program, refused, shape, told
from tests.samples import all_runs
from tests.test_layers import NOT_MANY
from tests.test_paths import NOT_SIDES, random_program
from tests.test_runs import NOT_STEPS
from tests.test_slices import RETURNS, all_edges

E = read("def main() { x = any(0, 9); if x < 3 { assert x != 1; } return 2 * x; }")
MANY = read("""def g(k) { if k > 1 { return 1; } k = h(k); return k; } def h(k) { assume k != 1; return 2; } def lone() { print 1; }
               def main() { x = any(0, 2); y = any(0, 1); if x < 1 { z = g(y); } else { if y > 0 { z = g(x); } }
                            while z > 0 { z = z - 1; print z; if z == 1 { return 9; } } return z; print x; }""")
HARD = read("def main() { s = 0; " + " ".join(f"{x} = any(0, 1); if {x} == 0 {{ s = s + {at}; }} else {{ s = s - 1; }}"
                                            for at, x in enumerate("abcde")) + " if s == 7 { print s; } return s; }")


def touched_by(program, inputs, steps):
    """The edges that a run touches, by its states."""
    why, states = played(program, inputs, steps)
    found = set()
    for at, state in enumerate(states):
        f, place, _ = state[-1]
        out = [(f, k) for k, edge in enumerate(edges(program, f)) if edge[0] == place]
        if at + 1 < len(states):
            if len(out) == 2:
                out = [(f, k) for f, k in out if edges(program, f)[k][1] == states[at + 1][-1][1]]
            found.add(out[0])
        elif why[0] == "ends":
            found.add(out[0])
    return found


def fewest(lots, many):
    for size in range(many + 1):
        for chosen in itertools.combinations(range(many), size):
            if all(set(lot) & set(chosen) for lot in lots):
                return list(chosen)


class TestListsTest(unittest.TestCase):
    def test_example(self):
        self.assertEqual(shape(told(self, touched, program=E, sides=[0, 1], steps=9)), shape([("main", 0), ("main", 1)]))
        self.assertEqual(shape(told(self, untested, program=E, steps=9, many=9)), shape([("main", 7)]))
        self.assertEqual(shape(told(self, tests, program=E, steps=9, many=9)), shape([[0], [3]]))

    def programs(self, seed, many=30):
        source = random.Random(seed)
        for program in [E, MANY, RETURNS, p_program()] + [random_program(source) for _ in range(many)]:
            for steps in (0, 1, source.randrange(2, 12), 40):
                if (all_runs(program, steps, 400) or None) is not None:
                    yield program, steps

    def test_touched_by_all_runs(self):
        for program, steps in self.programs(1):
            every = set()
            for inputs, sides, _ in all_runs(program, steps, 400):
                expected = touched_by(program, inputs, steps)
                self.assertEqual(touched(program, sides, steps), sorted(expected))
                every |= expected
            self.assertEqual(untested(program, steps, 10 ** 6), sorted(set(all_edges(program)) - every))

    def test_runs_that_ask_touch_no_more(self):
        for program in (E, MANY, RETURNS):
            left = untested(program, 60, 100)
            for inputs in ([], [0], [1], [2], [0, 0], [9]):
                self.assertFalse(touched_by(program, inputs, 60) & set(left))

    def test_what_is_touched(self):
        self.assertEqual(touched(MANY, [], 0), [])
        self.assertEqual(touched(E, [], 1), [("main", 0)])
        self.assertEqual(touched(E, [1], 3), [("main", 0), ("main", 3), ("main", 5)])
        self.assertEqual(followed(E, [1], 4)[0][0], "ends")
        self.assertEqual(touched(E, [1], 4), [("main", 0), ("main", 3), ("main", 5), ("main", 6)])
        call = read("def f() { return 3; } def main() { x = f(); assume x < 3; }")
        self.assertEqual(touched(call, [1], 20), [("f", 0), ("main", 0)])
        self.assertEqual(touched(call, [0], 20), [("f", 0), ("main", 0), ("main", 1), ("main", 2)])
        self.assertEqual(touched(call, [], 1), [("main", 0)])
        self.assertEqual(touched(call, [], 2), [("f", 0), ("main", 0)])
        self.assertEqual(untested(call, 20, 3), [("f", 1), ("main", 1), ("main", 2)])
        self.assertEqual([edge for edge in untested(MANY, 60, 30) if edge[0] in ("lone", "main")],
                         [("lone", 0), ("lone", 1), ("main", 19), ("main", 24), ("main", 25)])
        self.assertEqual([edges(MANY, "main")[number][2][0] for number in (19, 24, 25)], ["skip", "print", "return"])

    def test_sides_that_nobody_takes(self):
        program = read("def main() { x = any(0, 3); if x < 9 { return 1; } print x; return 2; }")
        self.assertEqual(told(self, touched, program=program, sides=[1], steps=9), [("main", k) for k in (0, 3, 5, 6, 7)])
        self.assertEqual(untested(program, 9, 9), [("main", k) for k in range(3, 9)])
        self.assertEqual(tests(program, 9, 9), [[0]])

    def test_tests_by_going_through_all_lots(self):
        for program, steps in self.programs(2):
            told_paths = paths(program, steps, 10 ** 6)
            if len(told_paths) > 14:
                continue
            sets = [set(touched(program, sides, steps)) for sides, _, _ in told_paths]
            every = set().union(*sets)
            lots = [[at for at, one in enumerate(sets) if edge in one] for edge in every]
            chosen = fewest(lots, len(sets))
            found = tests(program, steps, 10 ** 6)
            self.assertEqual(found, [told_paths[at][2] for at in chosen])
            left = set(untested(program, steps, 10 ** 6))
            by_tests = set().union(*[touched_by(program, inputs, steps) for inputs in found])
            self.assertEqual(by_tests | left, set(all_edges(program)))
            self.assertFalse(by_tests & left)

    def test_fewest(self):
        source = random.Random(3)
        for _ in range(400):
            many = source.randrange(1, 9)
            lots = [source.sample(range(many), source.randrange(1, many + 1)) for _ in range(source.randrange(8))]
            self.assertEqual(fewest_of_each(lots, many), fewest(lots, many))

    def test_no_steps_and_no_ends(self):
        self.assertEqual(told(self, tests, program=MANY, steps=0, many=1), [])
        self.assertEqual(told(self, untested, program=MANY, steps=0, many=1), sorted(all_edges(MANY)))
        endless = read("def main() { x = any(0, 2); while x != 1 { x = x; } return x; }")
        self.assertEqual(told(self, tests, program=endless, steps=30, many=9), [[0], [1]])
        self.assertEqual(untested(endless, 30, 9), [("main", 7)])
        never = read("def main() { assert 1 < 0; }")
        self.assertEqual(tests(never, 9, 9), [])
        self.assertEqual(untested(never, 9, 9), [("main", 0), ("main", 1)])
        one = read("def main() { }")
        self.assertEqual((tests(one, 1, 1), untested(one, 1, 1), tests(one, 0, 1)), ([[]], [], []))

    def test_many_paths(self):
        found = told(self, tests, program=HARD, steps=60, many=40)
        self.assertEqual(len(paths(HARD, 60, 40)), 32)
        self.assertEqual(len(found), 2)
        self.assertEqual(untested(HARD, 60, 40), [("main", len(edges(HARD, "main")) - 1)])
        for function in (tests, untested):
            self.assertIsNone(told(self, function, program=HARD, steps=60, many=31))
            self.assertIsNotNone(function(HARD, 60, 32))
            self.assertIsNone(function(HARD, 60, 1))

    def test_refusals(self):
        for thing in any_objects():
            if not isinstance(thing, Program):
                refused(self, BadProgram, thing, touched, thing, None, None)
                refused(self, BadProgram, thing, untested, thing, None, None)
                refused(self, BadProgram, thing, tests, thing, None, None)
        for thing in NOT_SIDES:
            refused(self, BadSides, thing, touched, E, thing, None)
        for thing in NOT_STEPS:
            refused(self, BadSteps, thing, touched, E, [0] * 9, thing)
            refused(self, BadSteps, thing, untested, E, thing, None)
            refused(self, BadSteps, thing, tests, E, thing, None)
        for thing in NOT_MANY:
            refused(self, BadMany, thing, untested, E, 3, thing)
            refused(self, BadMany, thing, tests, E, 3, thing)
        for sides, steps in (([], 9), ([0], 9), ([0, 1, 0], 9), ([1, 0], 9), ([0], 1), ((0, 0), 2)):
            refused(self, BadSides, sides, touched, E, sides, steps)
        self.assertEqual(touched(E, [0], 2), [("main", 0), ("main", 1)])


if __name__ == "__main__":
    unittest.main()

"""[18.6] to [18.9]: all paths, covers and their judge."""

import random
import unittest

from everypath.covers import broken, closed_by, cover, judged_cover, paths
from everypath.deciding import is_refutation
from everypath.errors import BadProgram, BadSteps
from everypath.graphs import assertions
from everypath.paths import followed, path_of
from everypath.programs import Program
from everypath.refusals import BadMany
from tests.helpers import any_objects, p_program, refused, shape, told
from tests.samples import all_runs
from tests.test_layers import NOT_MANY
from tests.test_paths import random_program
from tests.test_runs import NOT_STEPS
from tests.texts import main_of, program_in

LOOP = main_of("x = any(0, 4); y = any(0, 3); while x < y { x = x + 1; } assert x != 3; return x - y;")
RECURS = program_in("""def f(n) { if n < 1 { return 0; } n = n - 1; m = f(n); return m + 1; }
                       def main() { x = any(-1, 4); y = f(x); assert y != 2; z = any(0, 0); print z; return y; }""")
DEEP = main_of("x = any(0, 4000000); y = any(-4000000, 0); s = x // 7 + y mod 5; if s > 1000 { s = s - 2 * x; } "
               "assume s != 3 or x == 21; assert not [x == 20 and y mod 3 == 1]; print s; return s;")


def by_runs(program, steps):
    """All paths as the runs tell them, gone through one by one; None if there are too many."""
    runs = all_runs(program, steps, 700)
    if runs is None:
        return None
    first = {}
    for inputs, sides, why in runs:
        first.setdefault(tuple(sides), (sides, why, inputs))
    return [first[sides] for sides in sorted(first)]


def nodes(tree, sides=()):
    """(sides, node) of all nodes of a cover, each ahead of those within it."""
    yield list(sides), tree
    if tree[0] == "sides":
        for side in (0, 1):
            yield from nodes(tree[1 + side], (*sides, side))


def put(tree, sides, thing):
    """The cover with this thing in the place of what stands at these sides."""
    if not sides:
        return thing
    parts = list(tree)
    parts[1 + sides[0]] = put(tree[1 + sides[0]], sides[1:], thing)
    return tuple(parts)


class CoversTest(unittest.TestCase):
    def test_example(self):
        program = p_program()
        self.assertEqual(shape(told(self, paths, program=program, steps=9, many=10)), shape([
            ([0, 0, 0], ("going",), [16]), ([0, 1], ("breaks", "main", 7), [18]), ([1, 0, 0], ("going",), [5]),
            ([1, 0, 1], ("ends", 0), [0]), ([1, 1], ("breaks", "main", 7), [6])]))
        why, ranges, conditions, prints = followed(program, [1, 1], 9)
        half = ("div", ("name", "u0"), 2)
        self.assertEqual((why, ranges, prints), (("breaks", "main", 7), [(0, 20)], []))
        self.assertEqual(conditions, [("not", ("lt", ("number", 7), half)),
                                      ("not", ("ne", ("add", half, ("name", "u0")), ("number", 9)))])
        self.assertIs(told(self, closed_by, program=program, steps=28, many=40), True)
        self.assertEqual(shape(told(self, broken, program=program, steps=28, many=40)), shape([(("main", 7), [18])]))
        found = told(self, cover, program=program, steps=28, many=40)
        self.assertIsNone(told(self, judged_cover, program=program, steps=28, thing=found))

    def test_all_runs_go_along_just_one(self):
        source = random.Random(1)
        gone = 0
        for program in [LOOP, RECURS, p_program()] + [random_program(source) for _ in range(60)]:
            steps = source.randrange(3, 30)
            expected = by_runs(program, steps)
            if expected is None:
                continue
            gone += 1
            found = paths(program, steps, 1000)
            self.assertEqual(found, expected)
            tree = cover(program, steps, 1000)
            self.assertIsNone(judged_cover(program, steps, tree))
            ends = [(sides, node[1]) for sides, node in nodes(tree) if node[0] == "path"]
            self.assertEqual(ends, [(sides, inputs) for sides, _, inputs in found])
            self.assertIs(closed_by(program, steps, 1000), all(why != ("going",) for _, why, _ in found))
            first = {}
            for _, why, inputs in found:
                if why[0] == "breaks":
                    first.setdefault(why[1:], inputs)
            self.assertEqual(broken(program, steps, 1000),
                             [(one, first[one]) for one in assertions(program) if one in first])
        self.assertGreater(gone, 25)

    def test_broken_in_the_order_of_assertions(self):
        program = program_in("""def main() { x = any(0, 3); y = b(x); y = a(x); if x > 1 { assert x == 9; } return y; }
                                def b(k) { assert k != 1; return k; } def a(k) { assert k != 0; assert k != 1; }""")
        one, two, three, four = assertions(program)
        self.assertEqual(told(self, broken, program=program, steps=40, many=9), [(one, [2]), (two, [1]), (three, [0])])
        self.assertEqual(four[0], "a")

    def test_many(self):
        for program, steps in ((p_program(), 9), (RECURS, 60), (LOOP, 40)):
            many = len(paths(program, steps, 1000))
            for function in (paths, cover, closed_by, broken):
                self.assertIsNotNone(told(self, function, program=program, steps=steps, many=many))
                self.assertIsNone(told(self, function, program=program, steps=steps, many=many - 1))
                self.assertIsNone(function(program, steps, 1))

    def test_no_steps(self):
        self.assertEqual(told(self, paths, program=RECURS, steps=0, many=1), [([], ("going",), [])])
        self.assertEqual(told(self, cover, program=RECURS, steps=0, many=1), ("path", []))
        self.assertIs(told(self, closed_by, program=RECURS, steps=0, many=1), False)
        self.assertEqual(told(self, broken, program=RECURS, steps=0, many=1), [])
        self.assertIsNone(judged_cover(RECURS, 0, ("path", [])))
        self.assertEqual(judged_cover(RECURS, 0, ("path", [1])), [])
        self.assertEqual(paths(RECURS, 1, 1), [([], ("going",), [-1])])
        self.assertEqual(paths(main_of(""), 1, 1), [([], ("ends", 0), [])])

    def test_great_ranges(self):
        found = told(self, cover, program=DEEP, steps=30, many=9)
        self.assertIsNone(told(self, judged_cover, program=DEEP, steps=30, thing=found))
        for sides, why, inputs in paths(DEEP, 30, 9):
            self.assertEqual(path_of(DEEP, inputs, 30), (sides, why))
        self.assertEqual(broken(DEEP, 30, 9), [(("main", 9), [20, -3999998])])
        self.assertEqual({why[0] for _, why, _ in paths(DEEP, 30, 9)}, {"ends", "breaks", "barred"})

    def test_conditions_of_numbers_alone(self):
        program = main_of("x = 3; while x > 0 { x = x - 1; } if x == 5 { y = any(0, 3); } assert x == 0; return x;")
        self.assertEqual(paths(program, 40, 1), [([0, 0, 0, 1, 1, 0], ("ends", 0), [])])
        tree = cover(program, 40, 1)
        self.assertIsNone(judged_cover(program, 40, tree))
        self.assertEqual(len([node for _, node in nodes(tree) if node[0] == "never"]), 6)

    def test_each_never_is_a_refutation(self):
        for program, steps in ((RECURS, 60), (LOOP, 40), (DEEP, 30)):
            runs = [] if program is DEEP else all_runs(program, steps, 300)
            for sides, node in nodes(cover(program, steps, 100)):
                if node[0] == "never":
                    ranges = followed(program, sides[:-1], steps)[1]
                    self.assertTrue(is_refutation(ranges, followed(program, sides, steps)[2], node[1]))
                    self.assertFalse(any(run[1][:len(sides)] == sides for run in runs))

    def test_each_change_is_told(self):
        for program, steps in ((RECURS, 60), (LOOP, 40), (p_program(), 9)):
            tree = cover(program, steps, 100)
            runs = all_runs(program, steps, 300)
            for sides, node in nodes(tree):
                for thing in self.changes(program, steps, sides, node, runs):
                    self.assertEqual(judged_cover(program, steps, put(tree, sides, thing)), sides)
                if node[0] == "sides":
                    self.assertEqual(judged_cover(program, steps, put(tree, sides, node[:2])), sides)
                    self.assertEqual(judged_cover(program, steps, put(tree, sides, (*node, node[1]))), sides)
                    if node[1][0] != node[2][0]:
                        faulty = judged_cover(program, steps, put(tree, sides, ("sides", node[2], node[1])))
                        self.assertEqual(faulty[:len(sides) + 1], [*sides, 0])

    def changes(self, program, steps, sides, node, runs):
        """What must not stand in the place of a node."""
        found = [None, 3, "path", (), ("path",), ("sides", node, node, node), ("never",), ("path", None), ("path", "x"),
                 (node,), [[]], ("never", ("rows", [("sums", [])])), ("never", None), ("path", [None]), ("ends", 0)]
        if node[0] == "never":
            return found + [("path", []), ("never", [("sums", [])]), ("never", node), ("sides", node)]
        found += [("never", ("rows", [("sums", [[0]])])), ("never", ("or", 0, [])), ("path", [99, 99, 99])]
        if node[0] == "sides":
            return found + [("path", followed_inputs) for followed_inputs in ([], [0], [0, 0])]
        inputs = node[1]
        others = [run[0] for run in runs if run[1] != sides and len(run[0]) == len(inputs)][:4]
        return found + [("sides", node, node), ("path", [*inputs, 0]), ("path", [10 ** 9] * len(inputs) or [0]),
                        ("path", inputs[:-1] if inputs else [0]), ("path", [True] * len(inputs) or [1]),
                        ("path", tuple([*inputs, *inputs, 1]))] + [("path", other) for other in others]

    def test_other_inputs_of_the_same_path(self):
        tree = cover(RECURS, 60, 10)
        for sides, node in nodes(tree):
            if node[0] == "path":
                for inputs, along, _ in all_runs(RECURS, 60, 300):
                    other = judged_cover(RECURS, 60, put(tree, sides, ("path", inputs)))
                    self.assertEqual(other, None if along == sides else sides)

    def test_never_takes_no_unknown_of_later(self):
        program = main_of("x = any(0, 1); if x < 5 { y = any(0, 1); if y < 0 { return 1; } } return 0;")
        tree = cover(program, 20, 9)
        self.assertIsNone(judged_cover(program, 20, tree))
        self.assertEqual([(sides, node[0]) for sides, node in nodes(tree)],
                         [([], "sides"), ([0], "sides"), ([0, 0], "never"), ([0, 1], "path"), ([1], "never")])

    def test_other_objects(self):
        for thing in any_objects():
            for program, steps in ((RECURS, 40), (main_of(""), 3)):
                self.assertEqual(judged_cover(program, steps, thing), [])
                self.assertEqual(judged_cover(program, steps, ("path", thing)),
                                 None if program == main_of("") and thing in ([], ()) else [])
            self.assertEqual(judged_cover(RECURS, 40, ("sides", thing, thing)), [0])
            self.assertEqual(judged_cover(RECURS, 40, ("sides", ("never", thing), thing)), [0])
            self.assertEqual(judged_cover(RECURS, 40, (thing, thing, thing)), [])

    def test_long_covers(self):
        program = main_of("x = 0; while x < 300 { x = x + 1; } return x;")
        tree = cover(program, 2000, 2)
        self.assertIsNone(judged_cover(program, 2000, tree))
        self.assertEqual(paths(program, 2000, 2), [([0] * 300 + [1], ("ends", 300), [])])

    def test_refusals(self):
        program = p_program()
        for thing in any_objects():
            if not isinstance(thing, Program):
                for function in (paths, cover, closed_by, broken, judged_cover):
                    refused(self, BadProgram, thing, function, thing, None, None)
        for function in (paths, cover, closed_by, broken):
            for thing in NOT_STEPS:
                refused(self, BadSteps, thing, function, program, thing, 0)
            for thing in NOT_MANY:
                refused(self, BadMany, thing, function, program, 3, thing)
        for thing in NOT_STEPS:
            refused(self, BadSteps, thing, judged_cover, program, thing, None)


if __name__ == "__main__":
    unittest.main()

"""[22.1] to [22.7]: even loops, runs by leaps, far paths."""

import random
import unittest

from everypath.deciding import is_refutation
from everypath.errors import BadInputs, BadName, BadPlace, BadProgram, BadSides
from everypath.evens import gains
from everypath.farpaths import all_told, endless, far_cover, far_longest, far_paths, judged_far
from everypath.farwalks import far_followed
from everypath.graphs import edges, places
from everypath.leaps import far_path_of
from everypath.loops import heads
from everypath.paths import followed
from everypath.programs import Program
from everypath.refusals import BadLeaps, BadMany
from everypath.runs import played
from tests.helpers import X, add, any_objects, lt, name, no, num, p_program, program_of, refused, shape, times, told
from tests.samples import any_range
from tests.test_covers import nodes, put
from tests.test_forms import value_of
from tests.test_layers import NOT_MANY
from tests.test_runs import NOT_INPUTS, NOT_STEPS
from tests.test_zonesteps import holds
from tests.texts import main_of, program_in

N = name("n")
# main { n = any(0, 100); x = 0; while x < n { x = x + 3; } assert x < 102; }, and the same with n = n + 1 in the while
R = program_of(("any", "n", 0, 100), ("set", "x", num(0)), ("while", lt(X, N), [("set", "x", add(X, num(3)))]),
               ("assert", lt(X, num(102))))
FLAT = program_of(("any", "n", 0, 100), ("set", "x", num(0)), ("while", lt(X, N), [("set", "n", add(N, num(1)))]),
                  ("assert", lt(X, num(102))))
NEST = program_in("""def up(k) { s = 0; while s < k { s = s + 2; } return s; }
    def main() { n = any(0, 2); t = 0; i = 0; while i < n { k = any(0, 5); d = up(k); t = t + d; i = i + 1; }
                 while t > 1 and i > 0 { t = t - 2; i = i - 1; } assert t != 3; print t; return i; }""")
BOTH = main_of("""x = any(-4, 4); y = any(-4, 4); while x < y and x <= 3 { x = x + y - y + 2; z = 1; x = x - 1; }
                  if y > 2 { while y >= 0 { y = y + 1; x = x - 2; } } assume x != 2; return x - y;""")
NOT_FAR_SIDES = [thing for thing in any_objects() if thing not in ([], ())] + [[3], [True], [0, False], [0, "1"], [-1], "01"]
LONG = 400


def random_far(source):
    """A program with small even loops, some within others, some that are not even."""
    def block(depth):
        found = []
        for _ in range(source.randrange(1, 3)):
            kind = source.randrange(7 if depth else 4)
            one, other = source.sample("xyz", 2)
            if kind < 2:
                found.append(f"{one} = {one} + {source.randrange(-2, 3)};")
            elif kind == 2:
                found.append(f"if {one} < {other} {{ {block(0)} }}")
            elif kind == 3:
                found.append(f"assert {one} != {other} + {source.randrange(9)};")
            elif kind == 4:
                found.append(f"while {one} < {other} {{ {block(0)} {one} = {one} + 1; }}")
            else:
                more = source.choice(("", f"and {source.choice('xyz')} <= {source.randrange(6)}"))
                found.append(f"while {one} {source.choice(('<', '<='))} {other} {more} {{ {one} = {one} + "
                             f"{source.randrange(3)}; {other} = {other} - {source.randrange(2)}; }}")
        return " ".join(found)
    return main_of(f"x = any(-2, 3); y = any(-1, 4); z = any(0, 1); {block(1)} {block(1)} print x + y; return z;")


def by_steps(program, inputs, leaps):
    """(sides, why, rounds) of a run, told by going its steps one by one; None if it is not done in LONG steps."""
    why, states = played(program, inputs, LONG)
    sides, rounds, at = [], [], 0
    for _ in range(leaps):
        f, place, values = states[at][-1]
        starts = [edge for edge in edges(program, f) if edge[0] == place]
        action = starts[0][2]
        if gains(program, f, place) is not None:
            if holds(action[1], values):
                gone = [later for later in range(at, len(states))
                        if len(states[later]) == len(states[at]) and states[later][-1][1] == starts[1][1]]
                if not gone:
                    sides.append(2)
                    return sides, ("endless", f, place), rounds
                rounds.append(sum(state[-1][1] == place for state in states[at:gone[0]]) - 1)
                at = gone[0] - 1
            sides.append(0 if holds(action[1], values) else 1)
        elif action[0] in ("when", "assert", "assume"):
            sides.append(0 if holds(action[1], values) else 1)
        if at + 1 == len(states):
            return (sides, why, rounds) if why != ("going",) else None
        at += 1
    return sides, ("going",), rounds


def all_inputs(program, leaps):
    """Inputs of all runs that do not ask within so many leaps, ascending."""
    found, waiting = [], [[]]
    while waiting:
        inputs = waiting.pop()
        why = far_path_of(program, inputs, leaps)[1]
        if why[0] == "asks":
            low, high = any_range(program, why)
            waiting.extend([*inputs, n] for n in range(high, low - 1, -1))
        else:
            found.append(inputs)
    return found


class EvensTest(unittest.TestCase):
    def test_gains(self):
        self.assertEqual(told(self, gains, program=R, f="main", place=4), {"n": 0, "x": 3})
        for text, found in (
                ("x < y { x = x + 1; }", {"x": 1, "y": 0, "z": 0}), ("x <= y { }", {"x": 0, "y": 0, "z": 0}),
                ("x < y and [x <= 3 and y < 2 * z] { z = x; x = y; y = 2 * x - y; x = z - 5; z = 0; }", None),
                ("x < y and [x <= 3 and y < 2 * z] { z = z + x; z = z - x - 7; }", {"x": 0, "y": 0, "z": -7}),
                ("x < y { t = x; x = y; y = t; t = x; x = y; y = t; }", None),
                ("x < y { x = x + z; x = 3 + x - z; }", {"x": 3, "y": 0, "z": 0}),
                ("x < y { x = 2 * x; }", None), ("x < y { x = y; }", None), ("x < y { x = x + z; }", None),
                ("x == y { x = x + 1; }", None), ("x != y { x = x + 1; }", None), ("not x < y { x = x + 1; }", None),
                ("x < y or x < z { x = x + 1; }", None), ("x < y and x == z { x = x + 1; }", None),
                ("x // 1 < y { x = x + 1; }", None), ("x < y { x = x + 4 // 2; }", None),
                ("x < y { x = x + 0 * (z mod 2); }", None), ("x < y { print x; x = x + 1; }", None),
                ("x < y { if x < y { x = x + 1; } }", None), ("x < y { z = any(0, 0); }", None),
                ("x < y { assume x < 3; }", None), ("0 < 1 { x = x - 1; }", {"x": -1, "y": 0, "z": 0})):
            program = main_of(f"z = 0; y = 0; x = 0; t = 0; t = t; while {text}")
            head = heads(program, "main")[0]
            expected = None if found is None else {**{"t": 0}, **found}
            self.assertEqual((text, told(self, gains, program=program, f="main", place=head)), (text, expected))
            if expected is not None:
                self.assertEqual(list(gains(program, "main", head)), sorted(expected))
        for f in ("up", "main"):
            for place in range(places(NEST, f)):
                even = (f, place) in (("up", heads(NEST, "up")[0]), ("main", heads(NEST, "main")[1]))
                self.assertEqual(told(self, gains, program=NEST, f=f, place=place) is not None, even)
        self.assertEqual(gains(NEST, "up", heads(NEST, "up")[0]), {"k": 0, "s": 2})

    def test_a_round_adds_the_gains(self):
        for program in (R, FLAT, NEST, BOTH):
            for f, _, _ in program.functions():
                for head in heads(program, f):
                    found = gains(program, f, head)
                    for inputs in all_inputs(program, 30)[:40]:
                        states = [state for state in played(program, inputs, LONG)[1]]
                        at = [state[-1][2] for state in states if state[-1][:2] == (f, head) and len(state) == 1]
                        if found is not None and f == "main" and len(at) > 1:
                            self.assertEqual({x: at[1][x] - at[0][x] for x in at[0]}, found)

    def test_refusals(self):
        for thing in any_objects():
            if not isinstance(thing, Program):
                refused(self, BadProgram, thing, gains, thing, None, None)
            if thing != "main":
                refused(self, BadName, thing, gains, R, thing, None)
            if type(thing) is not int or thing not in (0, 1):
                refused(self, BadPlace, thing, gains, R, "main", thing)
        for thing in (places(R, "main"), -1):
            refused(self, BadPlace, thing, gains, R, "main", thing)


class LeapsTest(unittest.TestCase):
    def test_far_path_of(self):
        self.assertEqual(shape(told(self, far_path_of, program=R, inputs=[100], leaps=9)),
                         shape(([0, 1], ("breaks", "main", 7), [34])))
        for program, inputs, leaps, found in (
                (R, [0], 9, ([1, 0], ("ends", 0), [])), (R, [99], 9, ([0, 0], ("ends", 0), [33])),
                (R, [1], 9, ([0, 0], ("ends", 0), [1])), (R, [], 9, ([], ("asks", "main", 0), [])),
                (R, [7], 0, ([], ("going",), [])), (R, [7], 3, ([], ("going",), [])), (R, [7], 4, ([0], ("going",), [3])),
                (FLAT, [7], 9, ([2], ("endless", "main", 4), [])), (FLAT, [0], 9, ([1, 0], ("ends", 0), [])),
                (FLAT, [7], 3, ([], ("going",), [])), (FLAT, [7], 4, ([2], ("endless", "main", 4), [])),
                (p_program(), [9], 40, ([1, 0, 0], ("ends", 3), [2]))):
            self.assertEqual(told(self, far_path_of, program=program, inputs=inputs, leaps=leaps), found)

    def test_rounds_are_those_of_the_run(self):
        source = random.Random(1)
        seen = set()
        for program in [R, FLAT, NEST, BOTH] + [random_far(source) for _ in range(60)]:
            for inputs in all_inputs(program, 25)[::3]:
                expected = by_steps(program, inputs, 25)
                if expected is not None:
                    self.assertEqual(far_path_of(program, inputs, 25), expected)
                    seen.add(expected[1][0])
        self.assertEqual(seen, {"ends", "breaks", "barred", "endless", "going"})

    def test_many_rounds(self):
        program = main_of("n = any(0, 10000000); x = n; while 0 < n { n = n - 1; x = x - 1; } assert x == 0; return n;")
        self.assertEqual(far_path_of(program, [10 ** 7], 9), ([0, 0], ("ends", 0), [10 ** 7]))
        self.assertEqual(far_longest(program, 9, 9), (4 * 10 ** 7 + 5, [10 ** 7]))

    def test_refusals(self):
        for thing in any_objects():
            if not isinstance(thing, Program):
                refused(self, BadProgram, thing, far_path_of, thing, None, None)
        for thing in NOT_INPUTS:
            refused(self, BadInputs, thing, far_path_of, R, thing, None)
        for thing in NOT_STEPS:
            refused(self, BadLeaps, thing, far_path_of, R, [], thing)


class FarFollowedTest(unittest.TestCase):
    def test_example(self):
        u, v = name("u0"), name("u1")
        why, ranges, conditions, prints = told(self, far_followed, program=R, sides=[0], leaps=9)
        self.assertEqual((why, ranges, prints), (("sides",), [(0, 100), (1, 34)], []))
        self.assertEqual(conditions, [lt(num(0), u), lt(add(num(-3), times(3, v)), u), no(lt(times(3, v), u))])
        self.assertEqual(shape(told(self, far_followed, program=FLAT, sides=[2], leaps=9)),
                         shape((("endless", "main", 4), [(0, 100)], [lt(num(0), u)], [])))
        self.assertEqual(told(self, far_followed, program=R, sides=[1], leaps=9)[2], [no(lt(num(0), u))])
        self.assertEqual(far_followed(R, [], 3), (("going",), [(0, 100)], [], []))
        self.assertEqual(far_followed(R, [], 4), (("sides",), [(0, 100)], [], []))
        self.assertEqual(far_followed(R, [0, 1], 9)[0], ("breaks", "main", 7))
        self.assertEqual(far_followed(R, [0], 4)[0], ("going",))

    def test_ranges_of_rounds(self):
        for text, found in (
                ("while x < 10 { x = x + 4; }", (1, 3)), ("while x <= 12 { x = x + 4; }", (1, 4)),
                ("while x < 10 and x < 5 { x = x + 4; }", (1, 2)), ("while x < 10 and 0 < y { y = y - 1; }", (1, 7)),
                ("while x < 10 and 0 < y { y = y - 1; x = x + 5; }", (1, 2)), ("while 9 < x { x = x - 1; }", (1, 1)),
                ("while x < y { x = x + 2; y = y - 1; }", (1, 3)), ("y = x mod 5; while 0 < y { y = y - 1; }", (1, 3)),
                ("y = 3 * x; while 1 < y { y = y - 2; }", (1, 4)), ("y = y // 2; while 0 < y { y = y - 1; }", (1, 3))):
            program = main_of(f"x = any(0, 3); y = any(1, 7); {text}")
            self.assertEqual((text, far_followed(program, [0], 30)[1][2]), (text, found))

    def test_without_leaps_of_many_it_is_followed(self):
        program = main_of("x = any(0, 9); while x mod 3 != 0 { x = x + 1; print x; } if x > 3 { return x; } assert x == 0;")
        for sides in ([0, 0, 1, 0], [1], [1, 1, 0], [0, 1, 1, 1], []):
            self.assertEqual(far_followed(program, sides, 60), followed(program, sides, 60))

    def test_conditions_hold_just_for_the_runs(self):
        source = random.Random(3)
        for program in [R, FLAT, NEST, BOTH] + [random_far(source) for _ in range(40)]:
            for inputs in all_inputs(program, 20)[::5]:
                sides, why, rounds = far_path_of(program, inputs, 20)
                told_why, ranges, conditions, _ = far_followed(program, sides, 20)
                unknowns = self.unknowns(program, sides, inputs, rounds)
                values = {f"u{at}": n for at, n in enumerate(unknowns)}
                self.assertTrue(all(low <= n <= high for (low, high), n in zip(ranges, unknowns)))
                self.assertEqual(len(ranges), len(unknowns))
                self.assertTrue(all(holds(condition, values) for condition in conditions))
                if why[0] == "ends":
                    self.assertEqual(value_of(told_why[1], values), why[1])
                else:
                    self.assertEqual(told_why, why)

    def unknowns(self, program, sides, inputs, rounds):
        """The inputs and rounds in the order in which they are met."""
        left, more, found = list(inputs), list(rounds), []
        while True:
            ranges = far_followed(program, sides, 20)[1]
            if len(found) == len(ranges):
                return found
            sizes = [len(far_followed(program, sides[:many], 20)[1]) for many in range(len(sides) + 1)]
            is_rounds = self.is_rounds(program, sides, sizes, len(found))
            found.append(more.pop(0) if is_rounds else left.pop(0))

    def is_rounds(self, program, sides, sizes, number):
        """Whether the unknown of this number is one of rounds: met first behind a side 0 with three conditions."""
        many = [at for at, size in enumerate(sizes) if size > number][0]
        if many == 0 or sides[many - 1] != 0 or number != sizes[many - 1]:
            return False
        before = len(far_followed(program, sides[:many - 1], 20)[2])
        return len(far_followed(program, sides[:many], 20)[2]) == before + 3

    def test_refusals(self):
        for thing in any_objects():
            if not isinstance(thing, Program):
                refused(self, BadProgram, thing, far_followed, thing, None, None)
        for thing in NOT_FAR_SIDES:
            refused(self, BadSides, thing, far_followed, R, thing, None)
        for thing in NOT_STEPS:
            refused(self, BadLeaps, thing, far_followed, R, [2, 2], thing)
        for program, sides, leaps in ((R, [2], 9), (R, [0, 2], 9), (FLAT, [0], 9), (FLAT, [2, 0], 9), (R, [0], 3),
                                      (R, [0, 1, 0], 9), (R, [0, 0, 0], 9), (R, [1, 0], 4), (FLAT, [1, 2], 9)):
            refused(self, BadSides, sides, far_followed, program, sides, leaps)


class FarPathsTest(unittest.TestCase):
    def test_example(self):
        self.assertEqual(shape(told(self, far_paths, program=R, leaps=9, many=9)), shape([
            ([0, 0], ("ends", 0), [1, 1]), ([0, 1], ("breaks", "main", 7), [100, 34]), ([1, 0], ("ends", 0), [0])]))
        self.assertIs(told(self, all_told, program=R, leaps=9, many=9), True)
        self.assertEqual(told(self, endless, program=R, leaps=9, many=9), [])
        self.assertEqual(shape(told(self, far_longest, program=R, leaps=9, many=9)), shape((106, [100])))
        self.assertEqual(shape(told(self, endless, program=FLAT, leaps=9, many=9)), shape([("main", 4, [1])]))
        self.assertEqual(len(played(R, [100], 999)[1]) - 1, 106)

    def test_all_runs(self):
        source = random.Random(4)
        gone = 0
        for program in [R, FLAT, NEST, BOTH] + [random_far(source) for _ in range(50)]:
            leaps = source.randrange(8, 60)
            expected, ends = {}, {}
            for inputs in all_inputs(program, leaps):
                sides, why, rounds = far_path_of(program, inputs, leaps)
                expected.setdefault(tuple(sides), (sides, why, inputs))
                if why[0] == "endless":
                    ends.setdefault(why[1:], []).append((sides, inputs))
            found = far_paths(program, leaps, 300)
            if found is None:
                continue
            self.assertEqual([(sides, why) for sides, why, _ in found],
                             [expected[sides][:2] for sides in sorted(expected)])
            for sides, _, unknowns in found:
                rounds = far_path_of(program, expected[tuple(sides)][2], leaps)[2]
                self.assertEqual(sorted(unknowns), sorted([*expected[tuple(sides)][2], *rounds]))
            self.assertEqual(endless(program, leaps, 300), sorted((*where, min(ends[where])[1]) for where in ends))
            self.assertIs(all_told(program, leaps, 300), all(why != ("going",) for _, why, _ in found))
            self.longest(program, leaps)
            tree = far_cover(program, leaps, 300)
            self.assertIsNone(judged_far(program, leaps, tree))
            self.assertEqual([node[1] for _, node in nodes(tree) if node[0] == "path"],
                             [unknowns for _, _, unknowns in found])
            gone += 1
        self.assertGreater(gone, 30)

    def longest(self, program, leaps):
        """That the longest run is just the one that all runs gone through tell."""
        found = far_longest(program, leaps, 300)
        if not all_told(program, leaps, 300):
            self.assertIsNone(found)
            return
        best = None
        for inputs in all_inputs(program, leaps):
            sides, why, _ = far_path_of(program, inputs, leaps)
            if why[0] not in ("endless", "going"):
                steps = len(played(program, inputs, 5000)[1]) - 1
                if best is None or (-steps, sides, inputs) < best:
                    best = (-steps, sides, inputs)
        self.assertEqual(found, None if best is None else (-best[0], best[2]))

    def test_many(self):
        many = len(far_paths(NEST, 60, 300))
        for function in (far_paths, endless, far_cover):
            self.assertIsNotNone(told(self, function, program=NEST, leaps=60, many=many))
            self.assertIsNone(told(self, function, program=NEST, leaps=60, many=many - 1))
            self.assertIsNone(function(NEST, 60, 1))
        self.assertIs(told(self, all_told, program=NEST, leaps=60, many=many), True)
        self.assertIs(told(self, all_told, program=NEST, leaps=60, many=many - 1), False)
        self.assertIsNotNone(told(self, far_longest, program=NEST, leaps=60, many=many))
        self.assertIsNone(told(self, far_longest, program=NEST, leaps=60, many=many - 1))
        self.assertIs(all_told(NEST, 12, 300), False)
        self.assertIsNone(far_longest(NEST, 12, 300))

    def test_no_leaps(self):
        self.assertEqual(told(self, far_paths, program=R, leaps=0, many=1), [([], ("going",), [])])
        self.assertIs(all_told(R, 0, 1), False)
        self.assertEqual(endless(R, 0, 1), [])
        self.assertIsNone(far_longest(R, 0, 1))
        self.assertEqual(far_cover(R, 0, 1), ("path", []))
        self.assertIsNone(judged_far(R, 0, ("path", [])))
        self.assertEqual(far_longest(main_of(""), 1, 1), (0, []))

    def test_endless_ones_ascending(self):
        program = program_in("""def main() { x = any(0, 3); if x < 1 { y = b(x); } if x < 3 { y = a(x); } while x > 2 { }
                                while x > 1 { y = 0; } return x; } def b(k) { while k <= 0 { k = k - 1; } return k; }
                                def a(k) { if k > 1 { while 0 < 1 { } } while k >= 0 { k = k + 1; } return k; }""")
        first, second = heads(program, "a")
        self.assertEqual(told(self, endless, program=program, leaps=30, many=30), [
            ("a", first, [2]), ("a", second, [1]), ("b", heads(program, "b")[0], [0]),
            ("main", heads(program, "main")[0], [3])])

    def test_no_run_stops(self):
        program = main_of("x = any(0, 3); while 0 <= x { x = x + 1; }")
        self.assertEqual(far_paths(program, 9, 9), [([2], ("endless", "main", 3), [0])])
        self.assertIs(all_told(program, 9, 9), True)
        self.assertIsNone(far_longest(program, 9, 9))
        self.assertEqual(endless(program, 9, 9), [("main", 3, [0])])

    def test_endless_ones_go_on_for_good(self):
        for program in (FLAT, BOTH):
            for _, place, inputs in endless(program, 30, 99):
                why, states = played(program, inputs, LONG)
                self.assertEqual(why, ("going",))
                condition = [edge[2][1] for edge in edges(program, "main") if edge[0] == place][0]
                first = [at for at, state in enumerate(states) if state[0][1] == place][0]
                self.assertTrue(all(holds(condition, state[0][2]) for state in states[first:] if state[0][1] == place))
        self.assertEqual([place for _, place, _ in endless(BOTH, 30, 99)], [heads(BOTH, "main")[1]])

    def test_each_change_is_told(self):
        for program, leaps in ((R, 9), (FLAT, 9), (BOTH, 30), (NEST, 40)):
            tree = far_cover(program, leaps, 300)
            self.assertIsNone(told(self, judged_far, program=program, leaps=leaps, thing=tree))
            for way, node in nodes(tree):
                sides = self.sides_there(program, leaps, way)
                wrong = [None, 5, (), ("path",), ("never",), ("never", None), ("never", ("rows", [("sums", [])])),
                         ("path", [10 ** 9] * 9), ("sides", node, node, node), ("path", [None]), (node,)]
                if node[0] == "path":
                    wrong += [("sides", node, node), ("path", [*node[1], 1]), ("path", [-99] * len(node[1]) or [1]),
                              ("path", node[1][:-1] or [1, 2])]
                    if len(node[1]) > 1:
                        wrong.append(("path", [*node[1][:-1], node[1][-1] + 10 ** 6]))
                if node[0] == "sides":
                    wrong += [("path", []), node[:2], (*node, node[1])]
                for thing in wrong:
                    self.assertEqual(judged_far(program, leaps, put(tree, way, thing)), sides)

    def sides_there(self, program, leaps, way):
        """The far sides at a node of a cover, told by the places of the parts that lead to it."""
        sides = []
        for part in way:
            flat = True
            try:
                far_followed(program, [*sides, 2], leaps)
            except BadSides:
                flat = False
            sides.append(part + 1 if flat else part)
        return sides

    def test_rounds_must_be_those_of_the_run(self):
        tree = far_cover(R, 9, 9)
        for n in range(101):
            for rounds in range(36):
                sides, _, gone = far_path_of(R, [n], 9)
                found = judged_far(R, 9, put(tree, [0, 0], ("path", [n, rounds])))
                self.assertEqual(found, None if (sides, gone) == ([0, 0], [rounds]) else [0, 0])

    def test_refutations(self):
        found = 0
        for program, leaps in ((R, 9), (FLAT, 9), (BOTH, 30), (NEST, 60)):
            for way, node in nodes(far_cover(program, leaps, 300)):
                if node[0] == "never":
                    sides = self.sides_there(program, leaps, way)
                    _, ranges, conditions, _ = far_followed(program, sides, leaps)
                    ahead = far_followed(program, sides[:-1], leaps)
                    many = len(ahead[1]) + (1 if len(conditions) == len(ahead[2]) + 3 else 0)
                    self.assertTrue(is_refutation(ranges[:many], conditions, node[1]))
                    found += 1
        self.assertGreater(found, 5)

    def test_other_objects(self):
        for thing in any_objects():
            for program in (R, FLAT):
                self.assertEqual(judged_far(program, 9, thing), [])
                self.assertEqual(judged_far(program, 9, (thing, thing, thing)), [])
                self.assertEqual(judged_far(program, 9, ("sides", ("never", thing), thing)), [0 if program == R else 1])

    def test_refusals(self):
        for thing in any_objects():
            if not isinstance(thing, Program):
                for function in (far_paths, all_told, endless, far_longest, far_cover, judged_far):
                    refused(self, BadProgram, thing, function, thing, None, None)
        for function in (far_paths, all_told, endless, far_longest, far_cover):
            for thing in NOT_STEPS:
                refused(self, BadLeaps, thing, function, R, thing, None)
            for thing in NOT_MANY:
                refused(self, BadMany, thing, function, R, 3, thing)
        for thing in NOT_STEPS:
            refused(self, BadLeaps, thing, judged_far, R, thing, None)


if __name__ == "__main__":
    unittest.main()

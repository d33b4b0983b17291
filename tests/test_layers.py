"""[12.1] to [12.7]: next states, layers, ways, closed lists."""

import random
import unittest

from everypath.errors import BadAssertion, BadProgram, BadState
from everypath.graphs import assertions, edges
from everypath.layers import broken_in, ends_in, first_break, layers, next_states, open_at, way_to
from everypath.programs import Program
from everypath.refusals import BadMany, BadStates, BadWidth
from everypath.runs import played
from tests.helpers import (X, add, any_objects, containers, eq, lt, num, p_program, program_of, refused, shape, told)
from tests.samples import all_runs
from tests.test_paths import random_program
from tests.texts import main_of, program_in

# main { x = any(0, 2); while x < 4 { x = x + 2; } assert x == 4; return x; }
EXAMPLE = program_of(("any", "x", 0, 2), ("while", lt(X, num(4)), [("set", "x", add(X, num(2)))]),
                     ("assert", eq(X, num(4))), ("return", X))
NOT_MANY = [thing for thing in any_objects() if type(thing) is not int] + [0, -1, -10 ** 20]
RECURS = program_in("""def f(n) { if n < 1 { return 0; } n = n - 1; m = f(n); return m + 1; }
                       def main() { x = any(-1, 2); y = f(x); assert y != 2; return y; }""")


def all_states(found):
    return [state for layer in found[1] for state in layer]


def by_the_words(program, runs, steps):
    """The layers of all runs that were gone through so far: lists of (way, state)."""
    first = {}
    for inputs, _, _ in runs:
        taken = 0
        states = played(program, inputs, steps)[1]
        for moment, state in enumerate(states):
            way = inputs[:taken]
            at = str(shape(state))
            if at not in first or (moment, way) < first[at][:2]:
                first[at] = (moment, way, state)
            f, place, _ = state[-1]
            taken += [edge[2][0] for edge in edges(program, f) if edge[0] == place][0] == "any"
    found = []
    for moment, way, state in first.values():
        while len(found) <= moment:
            found.append([])
        found[moment].append((way, state))
    return [sorted(layer, key=lambda pair: pair[0]) for layer in found]


class LayersTest(unittest.TestCase):
    def test_example(self):
        why, found = told(self, layers, program=EXAMPLE, many=21, width=3)
        self.assertEqual((why, [len(layer) for layer in found]), (("closed",), [1, 3, 3, 3, 3, 2, 2, 2, 1, 1]))
        self.assertEqual(told(self, layers, program=EXAMPLE, many=16, width=3), (("many",), found[:6]))
        self.assertEqual(layers(EXAMPLE, 17, 3), (("many",), found[:7]))
        self.assertEqual(layers(EXAMPLE, 1, 3), (("many",), found[:1]))
        self.assertEqual(layers(EXAMPLE, 20, 3)[0], ("many",))
        self.assertEqual(told(self, layers, program=EXAMPLE, many=21, width=2), (("wide", "main", 0), found[:1]))
        self.assertEqual(told(self, first_break, program=EXAMPLE, assertion=("main", 6), many=21, width=3), [1])
        states = all_states((why, found))
        self.assertIsNone(told(self, open_at, program=EXAMPLE, states=states, width=3))
        self.assertEqual(told(self, broken_in, program=EXAMPLE, states=states), [("main", 6)])
        self.assertEqual(told(self, ends_in, program=EXAMPLE, states=states), [4])
        self.assertEqual(told(self, way_to, program=EXAMPLE, state=[("main", 3, {"x": 4})], many=21, width=3), [2])
        self.assertIn([("main", 3, {"x": 4})], found[5])

    def test_next_states(self):
        at = [("main", 0, {"x": 7})]
        self.assertEqual(told(self, next_states, program=EXAMPLE, state=at, width=3),
                         [[("main", 2, {"x": n})] for n in (0, 1, 2)])
        self.assertIsNone(told(self, next_states, program=EXAMPLE, state=at, width=2))
        for x, found in ((3, [[("main", 4, {"x": 3})]]), (4, [[("main", 6, {"x": 4})]])):
            self.assertEqual(next_states(EXAMPLE, [("main", 3, {"x": x})], 1), found)
        self.assertEqual(next_states(EXAMPLE, [("main", 6, {"x": 5})], 1), [])
        self.assertEqual(next_states(EXAMPLE, [("main", 7, {"x": 5})], 1), [])
        self.assertEqual(next_states(main_of("assume x > 0; x = 1;"), [("main", 0, {"x": 0})], 1), [])
        main, frame = ("main", 2, {"x": 1, "y": 0}), ("f", 0, {"n": 1, "m": 0})
        self.assertEqual(told(self, next_states, program=RECURS, state=[main], width=1), [[main, frame]])
        self.assertEqual(next_states(RECURS, [main, ("f", 2, {"n": 0, "m": 5})], 1),
                         [[("main", 3, {"x": 1, "y": 0})]])
        number, start = [(at, edge[0]) for at, edge in enumerate(edges(RECURS, "f")) if edge[2][0] == "call"][0]
        frame = ("f", start, {"n": 0, "m": 5})
        self.assertEqual(next_states(RECURS, [main, frame], 1), [[main, frame, ("f", 0, {"n": 0, "m": 0})]])
        ends = ("f", 2, {"n": 8, "m": 5})
        self.assertEqual(next_states(RECURS, [main, frame, ends], 1),
                         [[main, ("f", edges(RECURS, "f")[number][1], {"n": 0, "m": 0})]])

    def test_nothing_stands_in_two_places(self):
        found = layers(RECURS, 400, 9)
        self.assertEqual(len({id(part) for part in containers(found)}), len(containers(found)))
        found = next_states(RECURS, [("main", 0, {"x": 0, "y": 0})], 9)
        self.assertEqual(len({id(part) for part in containers(found)}), len(containers(found)))

    def test_layers_of_all_runs(self):
        source = random.Random(3)
        gone = 0
        for program in [RECURS, p_program(), EXAMPLE] + [random_program(source) for _ in range(25)]:
            steps = 14
            runs = all_runs(program, steps, 300)
            if runs is None:
                continue
            expected = by_the_words(program, runs, steps)
            found = layers(program, 2000, 30)[1][:steps]
            self.assertEqual(found, [[state for _, state in layer] for layer in expected[:steps]])
            for layer in expected[:steps:3]:
                for way, state in layer[::5]:
                    self.assertEqual(way_to(program, state, 2000, 30), way)
            gone += 1
        self.assertGreater(gone, 12)

    def test_closed(self):
        why, found = layers(RECURS, 400, 9)
        self.assertEqual(why, ("closed",))
        states = [state for layer in found for state in layer]
        self.assertIsNone(open_at(RECURS, states, 4))
        for inputs, _, why in all_runs(RECURS, 200, 100):
            self.assertTrue(all(state in states for state in played(RECURS, inputs, 200)[1]))
            if why[0] == "ends":
                self.assertIn(why[1], ends_in(RECURS, states))
        self.assertEqual(broken_in(RECURS, states), [("main", 2)])
        self.assertEqual(first_break(RECURS, ("main", 2), 400, 9), [2])
        self.assertEqual(ends_in(RECURS, states), [0, 1])
        self.assertIsNone(way_to(RECURS, [("main", 0, {"x": 5, "y": 0})], 400, 9))
        self.assertIsNone(way_to(RECURS, found[5][0], 400, 3))
        self.assertEqual(way_to(RECURS, found[0][0], 1, 3), [])

    def test_open(self):
        states = all_states(layers(EXAMPLE, 21, 3))
        self.assertEqual(told(self, open_at, program=EXAMPLE, states=[], width=3), ("first",))
        self.assertEqual(open_at(EXAMPLE, states[1:], 3), ("first",))
        self.assertEqual(open_at(EXAMPLE, states[1:] + states[:1], 3), None)
        self.assertEqual(told(self, open_at, program=EXAMPLE, states=states, width=2), ("wide", 0))
        self.assertEqual(open_at(EXAMPLE, states[:1], 2), ("wide", 0))
        self.assertEqual(open_at(EXAMPLE, states[:-1], 3), ("next", len(states) - 2))
        for at in range(1, len(states)):
            less = states[:at] + states[at + 1:]
            gone_from = [index for index, state in enumerate(less) if states[at] in next_states(EXAMPLE, state, 3)]
            self.assertEqual(open_at(EXAMPLE, less, 3), ("next", gone_from[0]))
        more = states + [[("main", 0, {"x": 90})], [("main", 6, {"x": 77})]]
        self.assertIsNone(open_at(EXAMPLE, more, 3))
        self.assertEqual(open_at(EXAMPLE, more + [[("main", 3, {"x": 9})]], 3), ("next", len(more)))
        self.assertIsNone(open_at(EXAMPLE, more + [[("main", 3, {"x": 77})]], 3))
        self.assertEqual(open_at(EXAMPLE, [[("main", 3, {"x": 50})]] + states, 3), ("next", 0))
        for thing in any_objects():
            self.assertEqual(open_at(EXAMPLE, [states[3], thing, thing], 3), ("state", 1))
        self.assertEqual(open_at(EXAMPLE, states + [[("main", 1, {"x": 4})]], 3), ("state", len(states)))

    def test_lists_of_states(self):
        self.assertEqual(told(self, broken_in, program=EXAMPLE, states=[]), [])
        self.assertEqual(told(self, ends_in, program=EXAMPLE, states=[]), [])
        ends = [[("main", 7, {"x": n})] for n in (5, -3, 5, 10 ** 20)]
        self.assertEqual(told(self, ends_in, program=EXAMPLE, states=ends), [-3, 5, 10 ** 20])
        self.assertEqual(broken_in(EXAMPLE, ends + [[("main", 6, {"x": 4})]]), [])
        two = main_of("x = 0; assert x == 1; y = any(0, 9000000000); assert y == 1; return x;")
        states = [[("main", 4, {"x": 0, "y": 3})], [("main", 3, {"x": 0, "y": 3})], [("main", 2, {"x": 0, "y": 3})]]
        self.assertEqual(broken_in(two, states), [("main", 1), ("main", 3)])
        self.assertEqual(ends_in(two, states), [])
        waiting = [("main", 2, {"x": 1, "y": 0}), ("f", 2, {"n": 0, "m": 5})]
        self.assertEqual(ends_in(RECURS, [waiting]), [])

    def test_wide_ones_are_told_least_first(self):
        program = main_of("x = any(0, 1); if x == 1 { y = any(0, 9); } else { z = any(0, 5); } return y;")
        why, found = layers(program, 50, 5)
        self.assertEqual((why, len(found)), (("wide", "main", 2), 3))
        self.assertEqual(layers(program, 50, 9)[0], ("wide", "main", 2))
        self.assertEqual(layers(program, 50, 10)[0], ("closed",))
        self.assertIsNone(way_to(program, [("main", 4, {"x": 0, "y": 0, "z": 0})], 50, 5))

    def test_wide_ones_of_several_functions(self):
        program = program_in("""def main() { x = any(0, 1); if x == 0 { y = any(0, 9); } else { x = a(); y = b(); } }
                                def b() { z = any(0, 9); return z; } def a() { z = 1; z = any(0, 9); return z; }""")
        self.assertEqual(layers(program, 50, 9)[0], ("wide", "main", 2))
        program = program_in("""def main() { x = any(0, 1); if x == 0 { y = b(); } else { y = a(); } }
                                def b() { z = any(0, 9); return z; } def a() { z = any(0, 9); return z; }""")
        why, found = layers(program, 50, 9)
        self.assertEqual((why, [len(layer) for layer in found]), (("wide", "a", 0), [1, 2, 2, 2]))

    def test_ways_of_layers_that_are_not_told(self):
        _, found = layers(EXAMPLE, 21, 3)
        for at, layer in enumerate(found):
            for state in layer:
                told_way = way_to(EXAMPLE, state, 16, 3)
                self.assertEqual(told_way, way_to(EXAMPLE, state, 21, 3) if at < 6 else None)
        self.assertIsNone(first_break(EXAMPLE, ("main", 6), 16, 3))

    def test_assertions_in_their_order(self):
        program = program_in("def main() { x = 0; assert x == 1; assert x == 2; y = a(); } def a() { z = 3; assert z == 1; }")
        at = {edge: edges(program, edge[0])[edge[1]][0] for edge in assertions(program)}
        states = [[("main", at[edge], {"x": 0, "y": 0})] for edge in assertions(program) if edge[0] == "main"]
        call = [edge[0] for edge in edges(program, "main") if edge[2][0] == "call"][0]
        inner = [[("main", call, {"x": 0, "y": 0}), ("a", at[edge], {"z": 3})] for edge in assertions(program)
                 if edge[0] == "a"]
        self.assertEqual(broken_in(program, inner + states[::-1]), assertions(program))
        self.assertEqual([f for f, _ in assertions(program)], ["main", "main", "a"])

    def test_breaks(self):
        program = main_of("x = any(0, 3); if x == 3 { assert x == 0; } x = x + 0; assert x != 2; assert x < 3;")
        numbers = [number for _, number in assertions(program)]
        self.assertEqual([first_break(program, ("main", number), 99, 9) for number in numbers], [[3], [2], None])
        self.assertIsNone(told(self, first_break, program=program, assertion=("main", numbers[0]), many=4, width=9))

    def test_refusals(self):
        state, one = [("main", 0, {"x": 0})], ("main", 6)
        for thing in any_objects():
            if not isinstance(thing, Program):
                for function, many in ((next_states, 2), (layers, 2), (way_to, 3), (first_break, 3), (open_at, 2),
                                       (broken_in, 1), (ends_in, 1)):
                    refused(self, BadProgram, thing, function, thing, *[None] * many)
            refused(self, BadState, thing, next_states, EXAMPLE, thing, None)
            refused(self, BadState, thing, way_to, EXAMPLE, thing, None, None)
            refused(self, BadAssertion, thing, first_break, EXAMPLE, thing, None, None)
            if not isinstance(thing, (list, tuple)):
                refused(self, BadStates, thing, open_at, EXAMPLE, thing, None)
            if thing not in ([], ()):
                refused(self, BadStates, thing, broken_in, EXAMPLE, thing)
                refused(self, BadStates, thing, ends_in, EXAMPLE, thing)
        for thing in NOT_MANY:
            refused(self, BadWidth, thing, next_states, EXAMPLE, state, thing)
            refused(self, BadMany, thing, layers, EXAMPLE, thing, None)
            refused(self, BadWidth, thing, layers, EXAMPLE, 1, thing)
            refused(self, BadMany, thing, way_to, EXAMPLE, state, thing, 0)
            refused(self, BadWidth, thing, way_to, EXAMPLE, state, 1, thing)
            refused(self, BadMany, thing, first_break, EXAMPLE, one, thing, 0)
            refused(self, BadWidth, thing, first_break, EXAMPLE, one, 1, thing)
            refused(self, BadWidth, thing, open_at, EXAMPLE, [], thing)
        for thing in ([state, [("main", 1, {"x": 0})]], [None, state], [state, []]):
            refused(self, BadStates, thing, broken_in, EXAMPLE, thing)
            refused(self, BadStates, thing, ends_in, EXAMPLE, thing)


if __name__ == "__main__":
    unittest.main()

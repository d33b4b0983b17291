"""[20.1], [20.2]: traces of runs and of sides."""

import random
import unittest

from everypath.errors import BadInputs, BadOther, BadProgram, BadSides, BadSteps
from everypath.paths import followed, path_of
from everypath.programs import Program
from everypath.runs import played, printed
from everypath.traces import is_parting, trace, traced
from tests.helpers import any_objects, p_program, refused, shape, told
from tests.test_forms import value_of
from tests.test_paths import NOT_SIDES, random_program
from tests.test_runs import NOT_INPUTS, NOT_STEPS
from tests.texts import main_of, program_in

PROGRAM = program_in("""def f(a) { print a; y = any(-2, 2); return a + y; }
    def main() { x = any(0, 3); x = f(2 * x); assume x > 0; assert x != 3; print x; print 7; return x; }""")


class TracesTest(unittest.TestCase):
    def test_trace(self):
        asks = [("asks", 0, 3), ("prints", 2), ("asks", -2, 2)]
        for inputs, steps, events in (
                ([1, 0], 40, [*asks, ("prints", 2), ("prints", 7), ("ends", 2)]),
                ([1, 1], 40, [*asks, ("breaks",)]), ([1, -2], 40, [*asks, ("barred",)]),
                ([1], 40, asks), ([1, 3], 40, asks), ([4], 40, asks[:1]), ([], 40, asks[:1]), ([], 1, asks[:1]),
                ([], 0, []), ([1], 1, asks[:1]), ([1], 2, asks[:1]), ([1], 3, asks[:2]), ([1], 4, asks),
                ([1, 1], 6, asks), ([1, 1], 7, [*asks, ("breaks",)]), ([1, 0], 9, [*asks, ("prints", 2), ("prints", 7)]),
                ([1, 0], 10, [*asks, ("prints", 2), ("prints", 7), ("ends", 2)])):
            self.assertEqual(shape(told(self, trace, program=PROGRAM, inputs=inputs, steps=steps)), shape(events))

    def test_traces_are_of_runs(self):
        source = random.Random(1)
        for _ in range(150):
            program, steps = random_program(source), source.randrange(30)
            inputs = [source.randrange(-3, 5) for _ in range(7)]
            why, states = played(program, inputs, steps)
            found = trace(program, inputs, steps)
            self.assertEqual([event[1] for event in found if event[0] == "prints"],
                             [n for _, n in printed(program, inputs, steps)])
            last = {"ends": [why], "breaks": [("breaks",)], "barred": [("barred",)]}.get(why[0], [])
            self.assertEqual([event for event in found if event[0] in ("ends", "breaks", "barred")], last)
            self.assertEqual(found[len(found) - len(last):], last)
            self.assertEqual([found[:len(trace(program, inputs, part))] for part in range(steps + 1)],
                             [trace(program, inputs, part) for part in range(steps + 1)])

    def test_traced(self):
        u, v = ("name", "u0"), ("name", "u1")
        self.assertEqual(shape(told(self, traced, program=PROGRAM, sides=[0, 0], steps=40)), shape((
            [("asks", 0, 3), ("prints", ("times", 2, u)), ("asks", -2, 2), ("prints", ("add", ("times", 2, u), v)),
             ("prints", ("number", 7)), ("ends", ("add", ("times", 2, u), v))], ("ends", ("add", ("times", 2, u), v)))))
        for sides, steps, last, why in (([1], 40, ("barred",), ("barred", "f", 3)), ([0, 1], 40, ("breaks",), None),
                                        ([0], 40, ("asks", -2, 2), ("sides",)), ([], 3, ("prints", ("times", 2, u)), None),
                                        ([], 0, None, ("going",))):
            found = told(self, traced, program=PROGRAM, sides=sides, steps=steps)
            self.assertEqual(found[0][-1] if found[0] else None, last)
            self.assertEqual(found[1], followed(PROGRAM, sides, steps)[0])
            if why is not None:
                self.assertEqual(found[1][0], why[0])

    def test_traced_is_the_trace(self):
        source = random.Random(2)
        for _ in range(150):
            program, steps = random_program(source), source.randrange(30)
            inputs = [source.randrange(-3, 5) for _ in range(7)]
            sides, why = path_of(program, inputs, steps)
            if why[0] == "asks":
                continue
            values = {f"u{at}": n for at, n in enumerate(inputs)}
            events, told_why = traced(program, sides, steps)
            self.assertEqual(told_why, followed(program, sides, steps)[0])
            self.assertEqual([(event[0], value_of(event[1], values)) if event[0] in ("prints", "ends") else event
                              for event in events], trace(program, inputs, steps))

    def test_parting(self):
        one = main_of("x = any(0, 3); print x; if x == 2 { print 5; } return x;")
        other = main_of("y = any(0, 3); print y; return 2 * y - 1;")
        for inputs, steps, parts in (([1], 40, False), ([0], 40, True), ([2], 40, True), ([2], 3, False), ([2], 4, True),
                                     ([2], 5, True), ([], 40, False), ([4], 40, False), ([1, 1], 40, False),
                                     ([0], 5, True), ([0], 4, False), ([0, 9], 9, True), ([0], 0, False)):
            found = told(self, is_parting, program=one, other=other, inputs=inputs, steps=steps)
            self.assertEqual((inputs, steps, found), (inputs, steps, parts))
            self.assertIs(is_parting(other, one, inputs, steps), parts)
        wide = main_of("y = any(0, 4); print y; return y;")
        self.assertIs(is_parting(one, wide, [], 9), True)
        self.assertIs(is_parting(one, wide, [], 0), False)
        self.assertIs(is_parting(one, main_of("return 0;"), [], 1), True)
        self.assertIs(is_parting(main_of("assert 0 == 1;"), main_of("assume 0 == 1;"), [], 1), True)
        self.assertIs(is_parting(main_of("assert 0 == 1;"), main_of("x = 3; assert x == 1;"), [], 9), False)
        self.assertIs(is_parting(main_of("print 1; assert 0 == 1;"), main_of("print 1;"), [], 1), False)

    def test_any_inputs(self):
        one, other = main_of("return 1;"), main_of("return 2;")
        for thing in any_objects():
            found = is_parting(one, other, thing, 9)
            self.assertIs(found, thing in ([], (), [0, 1, 2, 3]))

    def test_refusals(self):
        program = p_program()
        for thing in any_objects():
            if not isinstance(thing, Program):
                refused(self, BadProgram, thing, trace, thing, None, None)
                refused(self, BadProgram, thing, traced, thing, None, None)
                refused(self, BadProgram, thing, is_parting, thing, None, None, None)
                refused(self, BadOther, thing, is_parting, program, thing, None, None)
        for thing in NOT_INPUTS:
            refused(self, BadInputs, thing, trace, program, thing, None)
        for thing in NOT_SIDES:
            refused(self, BadSides, thing, traced, program, thing, None)
        for thing in NOT_STEPS:
            refused(self, BadSteps, thing, trace, program, [], thing)
            refused(self, BadSteps, thing, traced, program, [0] * 50, thing)
            refused(self, BadSteps, thing, is_parting, program, program, None, thing)
        for sides, steps in (([0], 3), ([1, 1, 0], 9), ([1, 0, 1, 0], 40), ([0], 0)):
            refused(self, BadSides, sides, traced, program, sides, steps)


if __name__ == "__main__":
    unittest.main()

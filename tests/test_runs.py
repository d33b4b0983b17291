"""[5.1] to [5.4]: runs."""

import random
import unittest

from everypath.errors import BadAssertion, BadInputs, BadProgram, BadSteps
from everypath.programs import Program
from everypath.runs import breaking, played, printed
from tests.helpers import (X, Y, add, any_objects, both, div, either, eq, le, lt, mod, name, ne, no, num, p_program,
                           program_of, refused, shape, sub, times, told)

NOT_INPUTS = [thing for thing in any_objects() if thing not in ([], (), [0, 1, 2, 3])] + [[True], [1, None], [[1]], ["1"], {1: 1}]
NOT_STEPS = [thing for thing in any_objects() if type(thing) is not int] + [-1, True, False, "3", [3]]


class RunsTest(unittest.TestCase):
    def ends(self, program, inputs, value):
        self.assertEqual(shape(played(program, inputs, 300)[0]), shape(("ends", value)))

    def test_example(self):
        program = p_program()
        why, states = told(self, played, program=program, inputs=[9], steps=4)
        self.assertEqual(why, ("going",))
        self.assertEqual(states, [
            [("main", 0, {"x": 0, "y": 0})], [("main", 2, {"x": 9, "y": 0})],
            [("main", 2, {"x": 9, "y": 0}), ("half", 0, {"a": 9})], [("main", 3, {"x": 9, "y": 4})],
            [("main", 6, {"x": 9, "y": 4})]])
        why, states = played(program, [9], 40)
        self.assertEqual((why, len(states)), (("ends", 3), 15))
        why, states = played(program, [6], 40)
        self.assertEqual((why, len(states)), (("breaks", "main", 7), 6))
        self.assertEqual(played(program, [], 40), (("asks", "main", 0), [[("main", 0, {"x": 0, "y": 0})]]))

    def test_steps_that_are_taken(self):
        program = p_program()
        whole = played(program, [9], 40)[1]
        for steps in range(14):
            self.assertEqual(played(program, [9], steps), (("going",), whole[:steps + 1]))
        self.assertEqual(played(program, [9], 14), (("going",), whole))
        self.assertEqual(played(program, [9], 15), (("ends", 3), whole))
        self.assertEqual(played(program, [6], 5)[0], ("going",))
        self.assertEqual(played(program, [], 0), (("going",), [[("main", 0, {"x": 0, "y": 0})]]))

    def test_inputs(self):
        program = program_of(("any", "x", -2, 2), ("any", "y", 5, 5), ("return", sub(X, Y)))
        self.ends(program, [-2, 5], -7)
        self.ends(program, [2, 5, 99], -3)
        for inputs, number in (([], 0), ([3], 0), ([-3, 5], 0), ([1], 1), ([1, 4], 1), ([1, 6], 1)):
            self.assertEqual(played(program, inputs, 9)[0], ("asks", "main", number))

    def test_expressions_and_conditions(self):
        a, b = name("a"), name("b")
        for x, y in ((7, 3), (-7, 3), (0, 0), (-1, -1), (5, -6)):
            for expression, expected in ((add(a, b), x + y), (sub(a, b), x - y), (times(-3, a), -3 * x),
                                         (div(a, 2), x // 2), (mod(a, 4), x % 4), (div(sub(b, a), 3), (y - x) // 3)):
                self.ends(program_of(("set", "a", num(x)), ("set", "b", num(y)), ("return", expression)), [], expected)
            for condition, holds in ((lt(a, b), x < y), (le(a, b), x <= y), (eq(a, b), x == y), (ne(a, b), x != y),
                                     (both(lt(a, b), le(a, num(0))), x < y and x <= 0),
                                     (either(eq(a, b), lt(num(4), a)), x == y or x > 4), (no(lt(a, b)), x >= y)):
                program = program_of(("set", "a", num(x)), ("set", "b", num(y)),
                                     ("if", condition, [("return", num(1))], []))
                self.ends(program, [], int(holds))
                for word, why in (("assert", "breaks"), ("assume", "barred")):
                    program = program_of(("set", "a", num(x)), ("set", "b", num(y)), (word, condition))
                    self.assertEqual(played(program, [], 9)[0], ("ends", 0) if holds else (why, "main", 2))

    def test_calls(self):
        fact = ("fact", ["n"], [("if", le(name("n"), num(0)), [("return", num(7))], []),
                                ("call", "r", "fact", [sub(name("n"), num(1))]), ("set", "n", add(name("n"), name("r"))),
                                ("return", name("n"))])
        program = Program([fact, ("main", [], [("call", "x", "fact", [num(3)]), ("return", add(X, Y)), ("set", "y", X)])])
        self.ends(program, [], 13)
        states = played(program, [], 60)[1]
        self.assertEqual(max(len(state) for state in states), 5)
        self.assertEqual([frame[:2] for frame in states[10]],
                         [("main", 0), ("fact", 5), ("fact", 5), ("fact", 5), ("fact", 0)])
        endless = Program([("main", [], [("call", "x", "main", [])])])
        why, states = played(endless, [], 300)
        self.assertEqual((why, len(states[300])), (("going",), 301))
        swapped = Program([("g", ["a", "b"], [("return", sub(name("a"), times(2, name("b"))))]),
                           ("main", [], [("set", "x", num(5)), ("call", "x", "g", [add(X, num(1)), X]), ("return", X)])])
        self.ends(swapped, [], -4)

    def test_prints(self):
        program = program_of(("set", "x", num(2)), ("while", lt(num(0), X), [("print", times(3, X)),
                                                                            ("set", "x", sub(X, num(1)))]),
                             ("print", num(-1)))
        self.assertEqual(told(self, printed, program=program, inputs=[], steps=50), [(3, 6), (7, 3), (11, -1)])
        self.assertEqual(printed(program, [], 12), [(3, 6), (7, 3), (11, -1)])
        self.assertEqual(printed(program, [], 11), [(3, 6), (7, 3)])
        self.assertEqual(printed(program, [], 3), [])
        self.assertEqual(printed(p_program(), [9], 40), [])

    def test_breaking(self):
        self.assertIs(told(self, breaking, program=p_program(), assertion=("main", 7), inputs=[6], steps=40), True)
        self.assertIs(breaking(p_program(), ("main", 7), [6], 6), True)
        self.assertIs(breaking(p_program(), ("main", 7), [6], 5), False)
        self.assertIs(breaking(p_program(), ("main", 7), [9], 40), False)
        self.assertIs(breaking(p_program(), ("main", 7), [], 40), False)
        program = program_of(("any", "x", 0, 9), ("assert", lt(X, num(5))), ("assert", lt(X, num(3))))
        for x in range(10):
            self.assertIs(breaking(program, ["main", 1], [x], 9), x >= 5)
            self.assertIs(breaking(program, ("main", 2), [x], 9), 3 <= x < 5)

    def test_runs_go_as_their_words_say(self):
        source = random.Random(1)
        for _ in range(50):
            low, high, n = source.randrange(-5, 5), source.randrange(5, 9), source.randrange(1, 6)
            program = program_of(("any", "x", low, high), ("while", lt(num(0), X), [("set", "x", sub(X, num(n))),
                                                                                   ("set", "y", add(Y, num(1)))]),
                                 ("return", Y))
            x = source.randrange(low, high + 1)
            self.ends(program, [x], len(range(0, x, n)))

    def test_states_share_nothing(self):
        program = program_of(("set", "x", num(1)), ("set", "x", num(2)), ("call", "y", "main", []))
        states = told(self, played, program=program, inputs=(), steps=9)[1]
        self.assertEqual([state[0][2]["x"] for state in states[:4]], [0, 1, 2, 2])

    def test_refusals(self):
        program = p_program()
        for thing in any_objects():
            if not isinstance(thing, Program):
                refused(self, BadProgram, thing, played, thing, None, None)
                refused(self, BadProgram, thing, printed, thing, None, None)
                refused(self, BadProgram, thing, breaking, thing, None, None, None)
            refused(self, BadAssertion, thing, breaking, program, thing, None, None)
        for thing in (("main", 6), ("main", 15), ("main", -1), ("main", True), ("half", 7), ("main",), "main"):
            refused(self, BadAssertion, thing, breaking, program, thing, None, None)
        for thing in NOT_INPUTS:
            refused(self, BadInputs, thing, played, program, thing, None)
            refused(self, BadInputs, thing, printed, program, thing, None)
            refused(self, BadInputs, thing, breaking, program, ("main", 7), thing, None)
        for thing in NOT_STEPS:
            refused(self, BadSteps, thing, played, program, [], thing)
            refused(self, BadSteps, thing, printed, program, [], thing)
            refused(self, BadSteps, thing, breaking, program, ("main", 7), [], thing)


if __name__ == "__main__":
    unittest.main()

"""[18.1], [18.3], and [18.9] as far as it speaks of followed: paths."""

import random
import unittest

from everypath.errors import BadInputs, BadProgram, BadSides, BadSteps
from everypath.paths import followed, path_of
from everypath.plainforms import plain
from everypath.programs import Program
from everypath.runs import played, printed
from tests.helpers import (X, Y, add, any_objects, both, div, eq, le, lt, mod, name, ne, no, num, p_program,
                           program_of, refused, shape, sub, times, told)
from tests.test_forms import random_expression, value_of
from tests.test_runs import NOT_INPUTS, NOT_STEPS
from tests.test_zonesteps import holds, random_condition

U, V = name("u0"), name("u1")
NOT_SIDES = [thing for thing in any_objects() if thing not in ([], ())] + [[2], [True], [0, False], [0, "1"], [-1], "01"]


def random_statements(source, depth):
    found = []
    for _ in range(source.randrange(1, 4)):
        kind = source.randrange(9 if depth else 6)
        if kind < 2:
            found.append(("set", source.choice("xyz"), random_expression(source, source.randrange(1, 5))))
        elif kind == 2:
            low = source.randrange(-4, 4)
            found.append(("any", source.choice("xyz"), low, low + source.randrange(6)))
        elif kind == 3:
            found.append((source.choice(("assert", "assume")), random_condition(source, 2, "xyz")))
        elif kind == 4:
            found.append(("print", random_expression(source, 3)))
        elif kind == 5:
            found.append(("call", "z", "g", [X, random_expression(source, 2)]))
        elif kind == 6:
            found.append(("while", random_condition(source, 1, "xyz"), random_statements(source, depth - 1)))
        else:
            found.append(("if", random_condition(source, 1, "xyz"), random_statements(source, depth - 1),
                          random_statements(source, depth - 1)))
    return found


def random_program(source):
    g = ("g", ["a", "b"], [("if", lt(name("a"), name("b")), [("return", sub(name("b"), name("a")))],
                            [("any", "c", 0, 3)]), ("return", add(name("c"), div(name("a"), 2)))])
    main = [("any", "x", -3, 3), ("any", "y", 0, 4), ("set", "z", num(1)), *random_statements(source, 2)]
    return Program([g, ("main", [], main)])


class PathsTest(unittest.TestCase):
    def test_example(self):
        program = p_program()
        c, d = no(lt(num(7), div(U, 2))), no(ne(add(div(U, 2), U), num(9)))
        self.assertEqual(shape(told(self, followed, program=program, sides=[1, 1], steps=9)),
                         shape((("breaks", "main", 7), [(0, 20)], [c, d], [])))
        for sides, why, inputs in (([0, 0, 0], ("going",), [16]), ([0, 1], ("breaks", "main", 7), [18]),
                                   ([1, 0, 0], ("going",), [5]), ([1, 0, 1], ("ends", 0), [0]),
                                   ([1, 1], ("breaks", "main", 7), [6])):
            self.assertEqual(told(self, path_of, program=program, inputs=inputs, steps=9), (sides, why))
            self.assertEqual(followed(program, sides, 9)[0][0], why[0])

    def test_path_of(self):
        program = p_program()
        self.assertEqual(path_of(program, [], 9), ([], ("asks", "main", 0)))
        self.assertEqual(path_of(program, [16], 0), ([], ("going",)))
        self.assertEqual(path_of(program, [16], 3), ([], ("going",)))
        self.assertEqual(path_of(program, [16], 4), ([0], ("going",)))
        self.assertEqual(path_of(program, [6], 6), ([1, 1], ("breaks", "main", 7)))
        self.assertEqual(path_of(program, [6], 5), ([1], ("going",)))
        barred = program_of(("assume", lt(num(0), num(0))))
        self.assertEqual(path_of(barred, [], 5), ([1], ("barred", "main", 0)))

    def test_followed_stops(self):
        program = p_program()
        self.assertEqual(followed(program, [], 3), (("going",), [(0, 20)], [], []))
        self.assertEqual(followed(program, [], 4), (("sides",), [(0, 20)], [], []))
        self.assertEqual(followed(program, [], 0), (("going",), [], [], []))
        why, _, conditions, _ = followed(program, [1], 6)
        self.assertEqual((why, len(conditions)), (("sides",), 1))
        self.assertEqual(followed(program, [1], 5)[0], ("going",))
        self.assertEqual(followed(program, [1, 0, 1], 40)[0], ("ends", U))
        self.assertEqual(followed(program, [1, 0, 1], 8)[0], ("going",))

    def test_values_are_plain(self):
        program = program_of(
            ("any", "x", -5, 5), ("set", "y", sub(add(X, X), num(3))), ("print", sub(Y, X)), ("any", "z", 1, 2),
            ("set", "x", div(add(Y, name("z")), 2)), ("assume", both(le(X, num(3)), no(eq(mod(Y, 2), X)))),
            ("print", times(2, X)), ("return", sub(add(X, Y), X)))
        why, ranges, conditions, prints = told(self, followed, program=program, sides=[0], steps=20)
        half = div(add(add(num(-3), times(2, U)), V), 2)
        self.assertEqual(why, ("ends", add(num(-3), times(2, U))))
        self.assertEqual(ranges, [(-5, 5), (1, 2)])
        self.assertEqual(prints, [add(num(-3), U), times(2, half)])
        self.assertEqual(conditions, [both(le(half, num(3)), no(eq(mod(add(num(-3), times(2, U)), 2), half)))])
        self.assertEqual(followed(program, [1], 20)[0], ("barred", "main", 5))
        self.assertEqual(followed(program, [1], 20)[2], [no(conditions[0])])

    def test_numbers_alone_are_sides_too(self):
        program = program_of(("while", lt(X, num(1)), [("set", "x", add(X, num(1)))]), ("assert", le(X, num(1))))
        why, ranges, conditions, _ = followed(program, [0, 1, 0], 20)
        self.assertEqual((why, ranges), (("ends", num(0)), []))
        self.assertEqual(conditions, [lt(num(0), num(1)), no(lt(num(1), num(1))), le(num(1), num(1))])
        self.assertEqual(followed(program, [1, 0], 20)[0], ("ends", num(0)))

    def test_runs_and_paths_are_one(self):
        source = random.Random(1)
        kinds = set()
        for _ in range(300):
            program, steps = random_program(source), source.randrange(5, 40)
            inputs = [source.randrange(-3, 5) for _ in range(8)]
            sides, why = path_of(program, inputs, steps)
            self.assertEqual(why, played(program, inputs, steps)[0])
            if why[0] == "asks":
                continue
            kinds.add(why[0])
            told_why, ranges, conditions, prints = followed(program, sides, steps)
            values = {f"u{at}": n for at, n in enumerate(inputs)}
            for (low, high), n in zip(ranges, inputs):
                self.assertTrue(low <= n <= high)
            self.assertEqual(len(conditions), len(sides))
            self.assertTrue(all(holds(condition, values) for condition in conditions))
            self.assertEqual([value_of(one, values) for one in prints],
                             [n for _, n in printed(program, inputs, steps)])
            if why[0] == "ends":
                self.assertEqual(value_of(told_why[1], values), why[1])
                self.assertEqual(plain(told_why[1]), told_why[1])
            else:
                self.assertEqual(told_why, why)
            self.other_sides(program, sides, steps, values)
        self.assertEqual(kinds, {"ends", "breaks", "barred", "going"})

    def other_sides(self, program, sides, steps, values):
        """That inputs which take some sides do not meet the conditions of other ones."""
        for at, side in enumerate(sides):
            others = [*sides[:at], 1 - side]
            conditions = followed(program, others, steps)[2]
            self.assertFalse(holds(conditions[-1], values))

    def test_refusals(self):
        program = p_program()
        for thing in any_objects():
            if not isinstance(thing, Program):
                refused(self, BadProgram, thing, path_of, thing, None, None)
                refused(self, BadProgram, thing, followed, thing, None, None)
        for thing in NOT_INPUTS:
            refused(self, BadInputs, thing, path_of, program, thing, None)
        for thing in NOT_SIDES:
            refused(self, BadSides, thing, followed, program, thing, None)
        for thing in NOT_STEPS:
            refused(self, BadSteps, thing, path_of, program, [], thing)
            refused(self, BadSteps, thing, followed, program, [1, 1, 1, 1], thing)
        for sides, steps in (([0], 3), ([1, 1, 0], 9), ([1, 0, 1, 0], 40), ([0], 0), ([1, 1], 5)):
            refused(self, BadSides, sides, followed, program, sides, steps)


if __name__ == "__main__":
    unittest.main()

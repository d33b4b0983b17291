"""[4.1] to [4.3]: places, edges, assertions."""

import unittest

from everypath.errors import BadName, BadProgram
from everypath.graphs import assertions, edges, is_assertion, places
from everypath.programs import Program
from tests.helpers import (X, Y, add, any_objects, div, lt, name, ne, no, num, p_program, program_of, refused, shape,
                           told)


class GraphsTest(unittest.TestCase):
    def test_example(self):
        program = p_program()
        self.assertEqual(places(program, "half"), 3)
        self.assertEqual(told(self, edges, program=program, f="half"),
                         [(0, 1, ("return", div(name("a"), 2))), (2, 1, ("return", num(0)))])
        self.assertEqual(told(self, places, program=program, f="main"), 14)
        rows = told(self, edges, program=program, f="main")
        self.assertEqual(len(rows), 15)
        self.assertEqual(rows[2], (3, 4, ("when", lt(num(7), Y))))
        self.assertEqual(rows[4], (3, 6, ("when", no(lt(num(7), Y)))))
        self.assertEqual(rows[7], (7, 8, ("assert", ne(add(Y, X), num(9)))))
        self.assertEqual(rows[11], (11, 9, ("skip",)))
        self.assertEqual(rows[13], (12, 1, ("return", X)))
        self.assertEqual(told(self, assertions, program=program), [("main", 7)])

    def test_all_statements(self):
        c, d = lt(X, num(3)), no(lt(X, num(4)))
        program = program_of(
            ("any", "x", 0, 9), ("assume", d), ("print", X),
            ("while", c, [("if", d, [("return", X)], [("call", "x", "main", [])]), ("set", "x", num(1))]),
            ("assert", d))
        self.assertEqual(places(program, "main"), 15)
        self.assertEqual(shape(edges(program, "main")), shape([
            (0, 2, ("any", "x", 0, 9)), (2, 3, ("assume", d)), (3, 4, ("print", X)), (4, 5, ("skip",)),
            (5, 6, ("when", c)), (6, 7, ("when", d)), (7, 1, ("return", X)), (6, 9, ("when", no(d))),
            (9, 10, ("call", "x", "main", [])), (8, 11, ("skip",)), (10, 11, ("skip",)),
            (11, 12, ("set", "x", num(1))), (12, 5, ("skip",)), (5, 13, ("when", no(c))),
            (13, 14, ("assert", d)), (14, 1, ("return", num(0)))]))

    def test_no_statements(self):
        self.assertEqual(places(program_of(), "main"), 2)
        self.assertEqual(edges(program_of(), "main"), [(0, 1, ("return", num(0)))])
        self.assertEqual(assertions(program_of()), [])

    def test_assertions_of_several_functions(self):
        c = lt(num(0), num(1))
        program = Program([("g", [], [("print", num(1)), ("assert", c)]), ("main", [], [("assert", c), ("assert", c)]),
                           ("f", [], [("while", c, [("assert", c)])])])
        self.assertEqual(assertions(program), [("g", 1), ("main", 0), ("main", 1), ("f", 2)])
        self.assertTrue(is_assertion(program, ["main", 1]))
        for thing in any_objects() + [("main", True), ("main", 2), ("main", -1), ("g", 0), ("h", 0), ("g", 1, 1)]:
            self.assertFalse(is_assertion(program, thing))

    def test_refusals(self):
        for thing in any_objects():
            if not isinstance(thing, Program):
                refused(self, BadProgram, thing, places, thing, 3)
                refused(self, BadProgram, thing, edges, thing, 3)
                refused(self, BadProgram, thing, assertions, thing)
            if thing != "main":
                refused(self, BadName, thing, places, p_program(), thing)
                refused(self, BadName, thing, edges, p_program(), thing)


if __name__ == "__main__":
    unittest.main()

"""[3.1], [3.2] and the trees of [3.5]: programs."""

import copy
import unittest

from everypath.errors import BadFunctions, BadName, BadProgram
from everypath.programs import Program, names_of
from tests.helpers import (P_FUNCTIONS, X, add, any_objects, both, containers, div, eq, le, listed, lt, mod, name, ne,
                           no, num, p_program, program_of, refused, shape, sub, times, told, tupled_all)

MAIN = ("main", [], [])


def function(*statements, params=("x",), f="f"):
    return (f, list(params), list(statements))


class ProgramTest(unittest.TestCase):
    def index_refused(self, functions, index):
        with self.assertRaises(BadFunctions) as caught:
            Program(functions)
        self.assertEqual(shape(caught.exception.index), shape(index))

    def sound(self, *functions):
        Program([*functions, MAIN])

    def wrong(self, thing):
        """That it is no function, ahead of a right main and behind it."""
        self.index_refused([thing, MAIN], 0)
        self.index_refused([MAIN, thing], 1)

    def test_example(self):
        main = p_program().functions()[1]
        self.assertEqual(shape(main), shape(P_FUNCTIONS[1]))
        self.assertEqual(main[2][2], ("if", lt(num(7), name("y")), [("set", "y", sub(name("y"), X))], []))

    def test_functions_are_told_as_written(self):
        everything = [("f", ["a", "b"], [
            ("set", "c", add(times(-3, name("a")), mod(sub(name("b"), num(-4)), 7))),
            ("any", "d", -5, -5),
            ("call", "c", "f", [name("c"), num(0)]),
            ("while", both(le(name("c"), num(3)), no(eq(name("d"), num(1)))), [
                ("if", ("or", ne(name("a"), num(2)), lt(num(1), name("b"))), [], [("print", div(name("a"), 1))])]),
            ("assume", le(num(0), num(0))), ("return", name("d"))]), MAIN]
        for form in (everything, listed(everything), tupled_all(everything)):
            self.assertEqual(shape(Program(form).functions()), shape(everything))

    def test_what_is_told_is_new_and_what_is_passed_is_kept_apart(self):
        functions = copy.deepcopy(P_FUNCTIONS)
        program = Program(functions=functions)
        self.assertEqual(functions, P_FUNCTIONS)
        for part in containers(functions):
            part.clear()
        first, again = program.functions(), program.functions()
        self.assertEqual(shape(first), shape(P_FUNCTIONS))
        parts = containers(first) + containers(again)
        self.assertEqual(len({id(part) for part in parts}), len(parts))
        for part in containers(again):
            part.clear()
        self.assertEqual(shape(program.functions()), shape(P_FUNCTIONS))
        self.assertEqual(program, p_program())

    def test_equal(self):
        self.assertTrue(p_program() == Program(tupled_all(P_FUNCTIONS)))
        self.assertFalse(p_program() != Program(listed(P_FUNCTIONS)))
        self.assertFalse(p_program() == Program(P_FUNCTIONS[::-1]))
        self.assertFalse(program_of() == program_of(("return", num(0))))
        for thing in any_objects():
            if not isinstance(thing, Program):
                self.assertIs(p_program() == thing, False)
        self.assertFalse(p_program() == P_FUNCTIONS)

    def test_names(self):
        program = Program([("main", [], [("set", "z", num(1)), ("while", lt(num(0), name("b")), [
            ("if", eq(num(0), num(0)), [("any", "b", 0, 0)], [("call", "a", "g", [num(1), num(2)])])])]),
            ("g", ["y", "c"], [("set", "b", name("c")), ("set", "y", num(3))])])
        self.assertEqual(told(self, names_of, program=program, f="main"), ["a", "b", "z"])
        self.assertEqual(told(self, names_of, program=program, f="g"), ["y", "c", "b"])
        for thing in any_objects():
            if thing != "main":
                refused(self, BadName, thing, names_of, program, thing)
            if not isinstance(thing, Program):
                refused(self, BadProgram, thing, names_of, thing, None)
        refused(self, BadName, "h", names_of, program, "h")

    def test_names_are_right(self):
        for right in ("a", "z", "abcdefgh", "anyx", "iff", "skip", "when"):
            self.sound(function(("set", right, num(1)), params=(), f=right))
        for wrong in ("", "abcdefghi", "A", "x1", "a b", "a_", "def", "if", "else", "while", "assert", "assume",
                      "return", "print", "any", "and", "or", "not", "mod", "\u00e9", 3, None, True, ["x"], b"x"):
            self.wrong(function(params=(), f=wrong))
            self.wrong(function(params=(wrong,)))
            self.wrong(function(("set", wrong, num(1)), params=()))
            self.wrong(function(("any", wrong, 0, 1), params=()))
            self.wrong(function(("call", wrong, "main", []), params=()))
            self.wrong(function(("call", "x", wrong, []), params=()))
            self.wrong(function(("print", ("name", wrong)), params=()))

    def test_a_name_that_nothing_sets(self):
        self.wrong(function(("print", name("y"))))
        self.wrong(function(("set", "z", add(X, name("y")))))
        self.wrong(function(("while", no(lt(X, name("y"))), [])))
        self.sound(function(("print", name("y")), ("if", lt(X, X), [], [("any", "y", 0, 1)])))
        self.sound(function(("print", name("f")), ("set", "f", num(0))))

    def test_params(self):
        self.wrong(function(params=("x", "x")))
        self.wrong(("f", "x", []))
        self.wrong(("f", None, []))
        self.wrong(("f", {"x": 1}, []))
        self.sound(("f", (), ()))

    def test_expressions(self):
        for right in (num(-10 ** 50), times(0, X), times(-2, times(3, X)), div(X, 1), mod(X, 10 ** 40)):
            self.sound(function(("print", right)))
        for wrong in (("number", True), ("number", "1"), ("number",), ("number", 1, 2), ("times", X, 2),
                      ("times", False, X), ("div", X, 0), ("div", X, -1), ("div", X, True), ("mod", X, 0),
                      ("mod", 2, X), ("add", X), ("add", X, X, X), ("lt", X, X), ("plus", X, X), ("name", "x", "x"),
                      "x", 3, X[:1], {"number": 1}, ("not", X), [[]]):
            self.wrong(function(("print", wrong)))
            self.wrong(function(("set", "x", ("sub", X, wrong))))
            self.wrong(function(("assert", ("le", wrong, X))))
            self.wrong(function(("return", wrong)))

    def test_conditions(self):
        for wrong in (X, ("lt", X), ("and", lt(X, X)), ("not", lt(X, X), lt(X, X)), ("gt", X, X), (), True, None,
                      ("eq", lt(X, X), X), ("or", X, X), "lt"):
            self.wrong(function(("assume", wrong)))
            self.wrong(function(("if", ("not", wrong), [], [])))
            self.wrong(function(("while", ("and", lt(X, X), wrong), [])))

    def test_statements(self):
        for wrong in (("any", "x", 1, 0), ("any", "x", True, 1), ("any", "x", 0), ("any", "x", 0, None), ("skip",),
                      ("when", lt(X, X)), ("call", "x", "main"), ("call", "x", "main", X), ("call", "x", "main", None),
                      ("if", lt(X, X), []), ("if", lt(X, X), [], None), ("if", lt(X, X), [], [[]]),
                      ("while", lt(X, X), X), ("while", lt(X, X)), ("set", "x"), ("return",), ("print", X, X), X):
            self.wrong(function(wrong))
            self.wrong(function(("while", lt(X, X), [wrong])))
            self.wrong(function(("if", lt(X, X), [], [("print", X), wrong])))
        self.wrong(("f", ["x"], None))
        self.wrong(("f", ["x"], {"return": X}))

    def test_calls(self):
        call = function(("while", lt(X, X), [("call", "x", "g", [X])]))
        g, other = function(f="g"), function(f="g", params=("x", "y"))
        self.sound(call, g)
        self.sound(g, call)
        self.index_refused([MAIN, call], 1)
        self.index_refused([call, g[:2], MAIN], 0)
        self.index_refused([g, MAIN, function(("call", "x", "g", []))], 2)
        self.index_refused([call, g, g, MAIN], 2)
        self.index_refused([call, other, g, MAIN], 0)
        self.index_refused([call, ("g", ["x"], [None]), g, MAIN], 1)
        self.index_refused([function(("call", "x", "h", [])), function(("call", "x", "h", [])), MAIN], 0)

    def test_lists(self):
        self.index_refused([], 0)
        self.index_refused([g for g in (function(f="g"), function(f="h"))], 2)
        self.index_refused([function(f="g"), function(f="main")], 2)
        self.index_refused([MAIN, function(f="g"), MAIN], 2)
        self.index_refused([MAIN, function(f="g"), function(f="g"), 3], 2)
        for thing in any_objects():
            if not isinstance(thing, (list, tuple)):
                self.index_refused(thing, 0)
            self.wrong(thing)
            self.wrong(function(thing))
            self.wrong(("f", thing, [("print", name("w"))]))

    def test_deep_things(self):
        condition = lt(X, X)
        for _ in range(400):
            condition = no(condition)
        self.sound(function(("assert", condition)))
        expression = ("name", "y")
        for _ in range(5000):
            expression = add(num(1), expression)
        self.wrong(function(("print", expression)))


if __name__ == "__main__":
    unittest.main()

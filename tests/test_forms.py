"""[6.5] to [6.8]: forms and the strips of expressions."""

import itertools
import random
import unittest

from everypath.errors import BadExpression, BadStrips
from everypath.forms import form_of, strip_of
from everypath.strips import reduced, strip_within
from tests.helpers import X, Y, add, any_objects, div, listed, mod, name, num, refused, shape, sub, times, told
from tests.test_strips import WRONG, least_around, members_of, random_strip

S, U = (4, 16, 6, 4), (0, None, 4, 0)
WRONG_EXPRESSIONS = [("number", True), ("name", 3), ("add", X), ("times", X, 2), ("div", X, 0), ("mod", X, True), X[0],
                     ("lt", X, X), ("not", X), ("number", None), ["name"], ("sub", X, 3), None, 3, ()]


def random_expression(source, parts, names="xyz", divs=True):
    if parts <= 1:
        return num(source.randrange(-4, 5)) if source.random() < 0.3 else name(source.choice(names))
    word = source.choice(("add", "sub", "times", "div", "mod") if divs else ("add", "sub", "times"))
    if word in ("add", "sub"):
        left = source.randrange(1, parts)
        return (word, random_expression(source, left, names, divs),
                random_expression(source, parts - left, names, divs))
    inner = random_expression(source, parts - 1, names, divs)
    if word == "times":
        return times(source.randrange(-3, 4), inner)
    return (word, inner, source.randrange(1, 6))


def value_of(expression, values):
    word = expression[0]
    if word == "number":
        return expression[1]
    if word == "name":
        return values[expression[1]]
    if word == "times":
        return expression[1] * value_of(expression[2], values)
    one = value_of(expression[1], values)
    if word == "div":
        return one // expression[2]
    if word == "mod":
        return one % expression[2]
    two = value_of(expression[2], values)
    return one + two if word == "add" else one - two


class FormsTest(unittest.TestCase):
    def test_example(self):
        expression = add(sub(div(Y, 2), X), num(3))
        self.assertEqual(told(self, form_of, expression=expression), (3, [(1, div(Y, 2)), (-1, X)]))
        self.assertEqual(told(self, strip_of, expression=expression, strips={"x": S, "y": U}), (-13, None, 2, 1))

    def test_forms(self):
        for expression, form in (
                (num(0), (0, [])), (X, (0, [(1, X)])), (sub(X, X), (0, [])), (times(0, div(X, 2)), (0, [])),
                (times(-3, sub(times(2, Y), add(X, num(4)))), (12, [(3, X), (-6, Y)])),
                (sub(div(X, 2), div(X, 2)), (0, [])), (add(div(X, 2), div(X, 3)), (0, [(1, div(X, 2)), (1, div(X, 3))])),
                (add(mod(X, 2), add(name("a"), div(Y, 9))), (0, [(1, div(Y, 9)), (1, mod(X, 2)), (1, name("a"))])),
                (div(add(X, X), 2), (0, [(1, div(add(X, X), 2))])), (div(num(7), 2), (0, [(1, div(num(7), 2))])),
                (add(mod(num(3), 5), mod(num(-3), 5)), (0, [(1, mod(num(-3), 5)), (1, mod(num(3), 5))])),
                (add(name("0"), name("")), (0, [(1, name("")), (1, name("0"))])),
                (add(name("B"), add(name("a"), name("\u00e9"))), (0, [(1, name("B")), (1, name("a")),
                                                                      (1, name("\u00e9"))]))):
            self.assertEqual(shape(told(self, form_of, expression=expression)), shape(form))

    def test_forms_have_the_same_values(self):
        source = random.Random(3)
        for _ in range(300):
            expression = random_expression(source, source.randrange(1, 20))
            constant, terms = form_of(listed(expression))
            pieces = [piece for _, piece in terms]
            self.assertTrue(all(one < two for one, two in zip(pieces, pieces[1:])))
            self.assertTrue(all(factor != 0 for factor, _ in terms))
            values = {x: source.randrange(-20, 20) for x in "xyz"}
            self.assertEqual(constant + sum(factor * value_of(piece, values) for factor, piece in terms),
                             value_of(expression, values))

    def test_strips_have_all_values_and_are_least(self):
        source = random.Random(4)
        for at in range(300):
            expression = random_expression(source, source.randrange(1, 9), "xy", at % 2 == 0)
            strips = {x: random_strip(source, 4) for x in "xyz"}
            strip = told(self, strip_of, expression=expression, strips=strips)
            names = [x for x in "xy" if any(part == name(x) for part in parts(expression))]
            if any(strips[x] is None for x in names):
                self.assertIsNone(strip)
                continue
            ranges = [members_of(strips[x], 12) for x in names]
            values = [value_of(expression, dict(zip(names, row))) for row in itertools.product(*ranges)]
            self.assertTrue(strip_within(least_around(values), strip))
            if at % 2 == 1 and all(None not in strips[x] for x in names):
                self.assertEqual(strip, least_around(values))

    def test_strips_rise(self):
        source = random.Random(5)
        for _ in range(200):
            expression = random_expression(source, source.randrange(1, 12), "xy")
            others = {x: random_strip(source, 9) for x in "xy"}
            strips = {x: reduced(-3, 5, 2 * others[x][2], others[x][3]) if others[x] else None for x in others}
            strips = {x: strips[x] if strip_within(strips[x], others[x]) else None for x in strips}
            self.assertTrue(strip_within(strip_of(expression, strips), strip_of(expression, others)))

    def test_rules_of_strip_of(self):
        strips = {"x": S, "y": U, "n": None, "": (1, 1, 0, 1)}
        for expression, strip in (
                (num(5), (5, 5, 0, 5)), (X, S), (sub(X, X), (0, 0, 0, 0)), (times(0, X), (0, 0, 0, 0)),
                (times(0, name("n")), None), (sub(name("n"), name("n")), None), (div(add(X, name("n")), 2), None),
                (mod(times(2, X), 8), (0, 4, 4, 0)), (sub(div(X, 2), div(X, 2)), (0, 0, 0, 0)),
                (sub(X, times(2, div(X, 2))), (-12, 12, 6, 0)), (mod(div(Y, 4), 3), (0, 2, 1, 0)),
                (add(name(""), num(2)), (3, 3, 0, 3))):
            self.assertEqual(shape(told(self, strip_of, expression=expression, strips=strips)), shape(strip))

    def test_refusals(self):
        for thing in any_objects() + WRONG_EXPRESSIONS:
            refused(self, BadExpression, thing, form_of, thing)
            refused(self, BadExpression, thing, strip_of, thing, None)
            if thing not in ({}, {"x": None}):
                refused(self, BadStrips, thing, strip_of, num(3), thing)
            if thing is not None:
                strips = {"x": S, "y": thing}
                refused(self, BadStrips, strips, strip_of, X, strips)
        for strips in ({"y": S}, {}, {"x": S, 1: S}, {"x": S, ("x",): S}, {"X": S}, *[{"x": one} for one in WRONG]):
            refused(self, BadStrips, strips, strip_of, X, strips)
        for expression in (("number", 1, 2), add(X, ("number", "1")), div(mod(("times", 1), 2), 2)):
            refused(self, BadExpression, expression, form_of, expression)

    def test_deep_expressions(self):
        expression = X
        for _ in range(3000):
            expression = add(num(1), expression)
        self.assertEqual(form_of(expression), (3000, [(1, X)]))
        for _ in range(300):
            expression = div(add(expression, Y), 2)
        self.assertEqual(strip_of(expression, {"x": (0, 0, 0, 0), "y": (1, 1, 0, 1)}), (1, 1, 0, 1))
        wrong = add(expression, ("name", None))
        refused(self, BadExpression, wrong, form_of, wrong)


def parts(expression):
    found = [expression]
    for part in expression[1:]:
        if isinstance(part, tuple):
            found.extend(parts(part))
    return found


if __name__ == "__main__":
    unittest.main()

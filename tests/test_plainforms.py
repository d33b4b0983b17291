"""[18.2], [18.4]: plain expressions and alternatives."""

import random
import unittest

from everypath.errors import BadCondition, BadExpression
from everypath.plainforms import alternatives, plain
from tests.helpers import (X, Y, add, any_objects, both, div, either, eq, le, lt, mod, name, ne, no, num, refused,
                           shape, sub, times, told)
from tests.test_forms import WRONG_EXPRESSIONS, random_expression, value_of
from tests.test_zonesteps import WRONG_CONDITIONS, holds, random_condition

A, B = name("a"), name("b")


class PlainTest(unittest.TestCase):
    def test_plain(self):
        for expression, expected in (
                (num(-3), num(-3)), (X, X), (sub(X, X), num(0)), (sub(num(2), times(-2, num(5))), num(12)),
                (times(-1, X), times(-1, X)), (add(X, num(0)), X), (add(X, num(7)), add(num(7), X)),
                (sub(add(Y, num(4)), X), add(add(num(4), times(-1, X)), Y)),
                (times(2, add(X, sub(Y, times(3, X)))), add(times(-4, X), times(2, Y))),
                (div(num(-7), 2), num(-4)), (mod(num(-7), 4), num(1)), (div(add(num(1), sub(X, X)), 1), num(1)),
                (div(X, 1), div(X, 1)), (mod(X, 1), mod(X, 1)),
                (div(add(X, add(num(1), X)), 3), div(add(num(1), times(2, X)), 3)),
                (add(div(add(X, Y), 2), times(2, div(add(Y, X), 2))), times(3, div(add(X, Y), 2))),
                (sub(mod(sub(X, num(0)), 5), mod(X, 5)), num(0)),
                (add(mod(X, 2), add(div(X, 2), X)), add(add(div(X, 2), mod(X, 2)), X)),
                (mod(div(times(6, X), 4), 3), mod(div(times(6, X), 4), 3))):
            self.assertEqual(shape(told(self, plain, expression=expression)), shape(expected))

    def test_same_values_and_plain_again(self):
        source = random.Random(1)
        for _ in range(400):
            expression = random_expression(source, source.randrange(1, 25))
            values = {x: source.randrange(-30, 30) for x in "xyz"}
            found = plain(expression)
            self.assertEqual(value_of(found, values), value_of(expression, values))
            self.assertEqual(plain(found), found)

    def test_deep_expressions(self):
        expression = X
        for _ in range(200):
            expression = div(add(add(Y, expression), num(1)), 2)
        self.assertEqual(plain(expression), plain(plain(expression)))
        for _ in range(3000):
            expression = add(expression, Y)
        self.assertEqual(plain(expression)[2], times(3000, Y))

    def test_refusals(self):
        for thing in any_objects() + WRONG_EXPRESSIONS:
            refused(self, BadExpression, thing, plain, thing)


class AlternativesTest(unittest.TestCase):
    def test_alternatives(self):
        one, two = add(num(1), A), add(num(1), B)
        for condition, expected in (
                (le(A, B), [[(A, B)]]), (lt(A, B), [[(one, B)]]), (eq(A, B), [[(A, B), (B, A)]]),
                (ne(A, B), [[(one, B)], [(two, A)]]), (no(le(A, B)), [[(two, A)]]), (no(lt(A, B)), [[(B, A)]]),
                (no(eq(A, B)), [[(one, B)], [(two, A)]]), (no(ne(A, B)), [[(A, B), (B, A)]]),
                (no(no(lt(A, B))), [[(one, B)]]), (lt(sub(A, num(1)), sub(B, B)), [[(A, num(0))]]),
                (either(lt(A, B), ne(X, Y)), [[(one, B)], [(add(num(1), X), Y)], [(add(num(1), Y), X)]]),
                (both(ne(A, B), eq(X, Y)), [[(one, B), (X, Y), (Y, X)], [(two, A), (X, Y), (Y, X)]]),
                (both(either(le(A, B), le(B, A)), either(le(X, Y), le(Y, X))),
                 [[(A, B), (X, Y)], [(A, B), (Y, X)], [(B, A), (X, Y)], [(B, A), (Y, X)]]),
                (no(both(le(A, B), no(either(lt(X, Y), eq(A, X))))),
                 [[(two, A)], [(add(num(1), X), Y)], [(A, X), (X, A)]]),
                (no(either(le(A, B), lt(X, Y))), [[(two, A), (Y, X)]])):
            self.assertEqual(shape(told(self, alternatives, condition=condition)), shape(expected))

    def test_one_holds_altogether(self):
        source = random.Random(2)
        for _ in range(300):
            condition = random_condition(source, source.randrange(1, 5))
            found = alternatives(condition)
            for _ in range(5):
                values = {x: source.randrange(-6, 7) for x in "xy"}
                true = any(all(value_of(e, values) <= value_of(f, values) for e, f in facts) for facts in found)
                self.assertEqual(true, holds(condition, values))
            for facts in found:
                for e, f in facts:
                    self.assertEqual((plain(e), plain(f)), (e, f))

    def test_refusals(self):
        for thing in any_objects() + WRONG_CONDITIONS + [lt(X, wrong) for wrong in WRONG_EXPRESSIONS]:
            refused(self, BadCondition, thing, alternatives, thing)


if __name__ == "__main__":
    unittest.main()

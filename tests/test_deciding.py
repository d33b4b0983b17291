"""[18.4], [18.5]: systems of facts, conditions decided, refutations judged."""

import itertools
import random
import unittest

from everypath.deciding import decided, is_refutation, system_of
from everypath.paths import followed
from everypath.plainforms import alternatives
from everypath.refusals import BadConditions, BadFacts, BadRanges
from everypath.systems import is_met, is_none
from tests.helpers import (X, add, any_objects, both, div, either, eq, le, lt, mod, name, ne, no, num, p_program,
                           refused, shape, sub, times, told)
from tests.test_forms import WRONG_EXPRESSIONS, random_expression, value_of
from tests.test_zonesteps import WRONG_CONDITIONS, holds

U, V, W = name("u0"), name("u1"), name("u2")
NOT_RANGES = [thing for thing in any_objects() if thing not in ([], ())] + [
    [(1, 0)], [(0, True)], [(0,)], [(0, 1, 2)], [0, 1], [(0, None)], [("0", "1")], {0: (0, 1)}]


def random_facts(source, many):
    names = [f"u{at}" for at in range(many)]
    return [tuple(random_expression(source, source.randrange(1, 7), names) if many else num(source.randrange(-2, 3))
                  for _ in range(2)) for _ in range(source.randrange(4))]


def random_conditions(source, many):
    names = [f"u{at}" for at in range(many)]

    def fact():
        return (source.choice(("lt", "le", "eq", "ne")),
                *(random_expression(source, source.randrange(1, 5), names) if many else num(source.randrange(-2, 3))
                  for _ in range(2)))

    def condition(facts):
        if facts > 1:
            return (source.choice(("and", "or")), condition(1), condition(facts - 1))
        return no(fact()) if source.random() < 0.3 else fact()

    return [condition(source.randrange(1, 4)) for _ in range(source.randrange(6))]


def grid(ranges):
    return itertools.product(*[range(low, high + 1) for low, high in ranges])


def named(values):
    return {f"u{at}": n for at, n in enumerate(values)}


class SystemOfTest(unittest.TestCase):
    def test_rows(self):
        inner = div(add(U, V), 3)
        facts = [(add(times(2, U), num(1)), mod(inner, 4)), (div(V, 2), sub(inner, num(5)))]
        found = told(self, system_of, ranges=[(0, 9), (-4, 4)], facts=facts)
        # the quotients: q0 of u0 + u1 by 3, q1 of q0 by 4, q2 of u1 by 2
        self.assertEqual(shape(found), shape((
            [(0, 9), (-4, 4), (-2, 4), (-1, 1), (-2, 2)],
            [([2, 0, -1, 4, 0], -1), ([0, 0, -1, 0, 1], -5),
             ([-1, -1, 3, 0, 0], 0), ([1, 1, -3, 0, 0], 2), ([0, 0, -1, 4, 0], 0), ([0, 0, 1, -4, 0], 3),
             ([0, -1, 0, 0, 2], 0), ([0, 1, 0, 0, -2], 1)])))

    def test_order_and_edges(self):
        self.assertEqual(told(self, system_of, ranges=[], facts=[]), ([], []))
        self.assertEqual(told(self, system_of, ranges=[], facts=[(num(3), num(2))]), ([], [([], -1)]))
        self.assertEqual(system_of([(0, 5)], []), ([(0, 5)], []))
        self.assertEqual(system_of([(0, 5)], [(mod(U, 7), div(U, 7))]),
                         ([(0, 5), (0, 0)], [([1, -8], 0), ([-1, 7], 0), ([1, -7], 6)]))
        self.assertEqual(system_of([(0, 5)], [(sub(div(U, 2), div(U, 2)), mod(U, 2))]),
                         ([(0, 5), (0, 2)], [([-1, 2], 0), ([-1, 2], 0), ([1, -2], 1)]))
        self.assertEqual(system_of([(0, 5)], [(div(num(9), 2), U)]), ([(0, 5)], [([-1], -4)]))
        # what is met first has the lesser number, and terms are met as they are written plain
        found = system_of([(0, 9), (0, 9)], [(add(mod(V, 3), div(U, 2)), num(0)), (mod(U, 5), num(1))])
        self.assertEqual(found[0], [(0, 9), (0, 9), (0, 4), (0, 3), (0, 1)])
        # x - x mod 4 and 4 * (x // 4) are unlike in what is divided
        found = system_of([(0, 50)], [(div(sub(U, mod(U, 4)), 3), div(times(4, div(U, 4)), 3))])
        self.assertEqual(len(found[0]), 4)

    def test_systems_are_met_as_facts_hold(self):
        source = random.Random(1)
        for _ in range(200):
            many = source.randrange(3)
            ranges = [(low, low + source.randrange(5)) for low in (source.randrange(-5, 5) for _ in range(many))]
            facts = random_facts(source, many)
            system = system_of(ranges, facts)
            self.assertEqual(system[0][:many], ranges)
            for values in grid(ranges):
                true = all(value_of(e, named(values)) <= value_of(f, named(values)) for e, f in facts)
                quotients = [range(low, high + 1) for low, high in system[0][many:]]
                if len(quotients) <= 2:
                    met = [more for more in itertools.product(*quotients) if is_met(system, [*values, *more])]
                    self.assertEqual(len(met), int(true))

    def test_refusals(self):
        for thing in NOT_RANGES:
            refused(self, BadRanges, thing, system_of, thing, None)
        for thing in [thing for thing in any_objects() if thing not in ([], ())] + [
                [(U,)], [(U, U, U)], [U], [(U, V)], [(U, X)], [(U, lt(U, U))], [(U, None)], {"u0": U}, [(name("u00"), U)],
                *[[(U, wrong)] for wrong in WRONG_EXPRESSIONS]]:
            refused(self, BadFacts, thing, system_of, [(0, 1)], thing)


class DecidedTest(unittest.TestCase):
    def never(self, ranges, conditions):
        kind, refutation = told(self, decided, ranges=ranges, conditions=conditions)
        self.assertEqual(kind, "never")
        self.assertIs(told(self, is_refutation, ranges=ranges, conditions=conditions, thing=refutation), True)
        return refutation

    def test_least_inputs_or_a_refutation(self):
        source = random.Random(2)
        kinds = {"met": 0, "never": 0}
        for _ in range(500):
            many = source.randrange(4)
            ranges = [(low, low + source.randrange(6)) for low in (source.randrange(-5, 5) for _ in range(many))]
            conditions = random_conditions(source, many)
            expected = next((list(values) for values in grid(ranges)
                             if all(holds(condition, named(values)) for condition in conditions)), None)
            kind, found = decided(ranges, conditions)
            kinds[kind] += 1
            if expected is None:
                self.assertEqual(kind, "never")
                self.assertIs(is_refutation(ranges, conditions, found), True)
            else:
                self.assertEqual(shape((kind, found)), shape(("met", expected)))
        self.assertTrue(min(kinds.values()) > 100)

    def test_edges(self):
        self.assertEqual(told(self, decided, ranges=[], conditions=[]), ("met", []))
        self.assertEqual(decided([(3, 4), (-2, 9)], []), ("met", [3, -2]))
        self.assertEqual(decided([], [le(num(1), num(1))]), ("met", []))
        self.never([], [lt(num(1), num(1))])
        self.never([(0, 9)], [ne(U, U)])
        self.never([(0, 9)], [either(lt(U, num(0)), either(lt(U, num(0)), lt(num(9), U)))])

    def test_paths_of_the_example(self):
        program = p_program()
        for sides, inputs in (([0, 0, 0], [16]), ([0, 1], [18]), ([1, 0, 0], [5]), ([1, 0, 1], [0]), ([1, 1], [6])):
            _, ranges, conditions, _ = followed(program, sides, 9)
            self.assertEqual(decided(ranges, conditions), ("met", inputs))
        _, ranges, conditions, _ = followed(program, [0, 0, 1], 40)
        self.never(ranges, conditions)

    def test_great_ranges(self):
        wide = (0, 4 * 10 ** 6)
        crt = [eq(mod(U, 97), num(3)), eq(mod(U, 89), num(5)), eq(mod(U, 83), num(2))]
        self.assertEqual(decided([wide], crt), ("met", [498583]))
        self.never([(0, 498582)], crt)
        self.never([wide], [eq(mod(U, 6), num(3)), eq(mod(U, 4), num(2))])
        self.never([wide] * 3, [eq(add(times(6, U), sub(times(9, V), times(15, W))), num(100))])
        halves, conditions = U, []
        for _ in range(20):
            conditions.append(lt(num(1), halves))
            halves = div(halves, 2)
        self.assertEqual(decided([wide], conditions), ("met", [2 ** 20]))
        self.never([wide], [*conditions, lt(U, num(2 ** 20))])

    def test_remainders_of_remainders(self):
        """A sum that is taken thrice, each time of the remainder that it left: some inputs of millions, or none."""
        steps = [U]
        for _ in range(3):
            steps.append(mod(add(times(1103, steps[-1]), num(12345)), 65536))
        few = [lt(steps[3], num(100)), lt(steps[2], num(1000))]
        kind, inputs = decided([(0, 4 * 10 ** 6)], few)
        self.assertEqual(kind, "met")
        expected = next(n for n in range(4 * 10 ** 6) if all(holds(condition, {"u0": n}) for condition in few))
        self.assertEqual(inputs, [expected])
        self.never([(0, expected - 1)], few)

    def test_many_choices(self):
        names = [name(f"u{at}") for at in range(5)]
        unlike = [ne(one, other) for one, other in itertools.combinations(names, 2)]
        self.assertEqual(decided([(0, 4)] * 5, unlike), ("met", [0, 1, 2, 3, 4]))
        self.never([(0, 3)] * 5, unlike)
        gaps = [ne(U, num(n)) for n in range(20)]
        self.assertEqual(decided([(0, 30)], gaps), ("met", [20]))
        self.never([(0, 19)], gaps)
        gap = gaps[0]
        for other in gaps[1:8]:
            gap = both(gap, other)
        self.assertEqual(decided([(0, 30)], [gap]), ("met", [8]))
        refutation = self.never([(0, 7)], [gap])
        self.assertEqual(len(refutation[2]), 2 ** 8)
        self.never([(0, 9)] * 2, [no(gap), either(lt(num(7), U), lt(V, num(0)))])

    def test_is_refutation(self):
        ranges, conditions = [(0, 9)], [ne(U, num(4)), le(U, num(5)), lt(num(3), U), no(eq(U, num(5)))]
        split = decided(ranges, conditions)[1]
        self.assertEqual(split[0], "or")
        self.assertEqual(len(split[2]), 2)
        self.assertIs(is_refutation(ranges, conditions, split), True)
        word, index, parts = split
        other = 3 - index
        wrong = [("or", index, parts[:1]), ("or", index, [*parts, parts[0]]), ("or", index, parts[::-1]),
                 ("or", other, parts), ("or", 1, parts), ("or", 4, parts), ("or", -1, parts), ("or", True, parts),
                 ("or", index, None), ("or", index), ("rows", []), ("rows", parts), ("rows",), ("rows", [], []),
                 (word, str(index), parts), [parts], ("or", index, [split, split])]
        for thing in any_objects() + wrong:
            self.assertIs(is_refutation(ranges, conditions, thing), False)
        again = ("or", index, [("or", index, [parts[0], parts[0]]), parts[1]])
        self.assertIs(is_refutation(ranges, conditions, again), False)

    def test_rows_leave_out_what_has_several_alternatives(self):
        ranges, conditions = [(0, 9)], [le(num(7), U), ne(U, num(4)), lt(U, num(7))]
        system = system_of(ranges, [(num(7), U), (add(num(1), U), num(7))])
        refutation = [("sums", [[1, 1, 0, 0]])]
        self.assertTrue(is_none(system, refutation))
        self.assertIs(is_refutation(ranges, conditions, ("rows", refutation)), True)
        facts = [*alternatives(conditions[0])[0], *alternatives(conditions[1])[0], *alternatives(conditions[2])[0]]
        self.assertTrue(is_none(system_of(ranges, facts), [("sums", [[1, 0, 1, 0, 0]])]))
        longer = ("rows", [("sums", [[1, 0, 1, 0, 0]])])
        self.assertIs(is_refutation(ranges, conditions, longer), False)
        self.assertIs(is_refutation(ranges, conditions, ("or", 1, [longer, longer])), True)

    def test_refusals(self):
        for thing in NOT_RANGES:
            refused(self, BadRanges, thing, decided, thing, None)
            refused(self, BadRanges, thing, is_refutation, thing, None, None)
        for thing in [thing for thing in any_objects() if thing not in ([], ())] + [
                [U], [lt(U, V)], [lt(U, X)], lt(U, U), {"u0": lt(U, U)}, [lt(U, U), None], [lt(name("u"), U)],
                [lt(name("u01"), U)], *[[wrong] for wrong in WRONG_CONDITIONS]]:
            refused(self, BadConditions, thing, decided, [(0, 1)], thing)
            refused(self, BadConditions, thing, is_refutation, [(0, 1)], thing, None)


if __name__ == "__main__":
    unittest.main()

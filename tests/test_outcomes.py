"""[21.2] to [21.6], and the example [21.9] but for its last sentence: outcomes and chances."""

import math
import random
import unittest
from fractions import Fraction

from everypath.counting import count
from everypath.covers import paths
from everypath.deciding import is_refutation
from everypath.errors import BadCondition, BadProgram, BadSteps
from everypath.outcomes import (chance_ending, chance_of, chance_of_all, chances, ending, greatest_outcome, is_never,
                                least_outcome)
from everypath.paths import followed, path_of
from everypath.programs import Program
from everypath.reading import read
from everypath.refusals import BadMany, BadSome, BadWhy
from tests.helpers import any_objects, both, either, eq, le, lt, mod, name, ne, no, num, p_program, refused, shape, told
from tests.samples import all_runs, any_range
from tests.test_layers import NOT_MANY
from tests.test_paths import random_program
from tests.test_runs import NOT_STEPS
from tests.test_zonesteps import holds

OUT = name("out")
E = read("def main() { x = any(0, 9); if x < 3 { assert x != 1; } return 2 * x; }")
TWO = read("""def f(k) { if k < 2 { z = any(0, 1); return k + z; } return k // 2; }
              def main() { x = any(-2, 3); y = f(x); assume y != -1; t = any(1, 3); assert y + t < 6; return 3 * y - t mod 3; }""")
STUCK = read("def main() { x = any(0, 4); while x != 2 { x = x; } return x; }")
NONE = read("def main() { x = any(0, 4); assert x < 0; return x; }")
WIDE = read("""def main() { a = any(0, 4000000); b = any(-4000000, 0); c = any(0, 99); d = any(0, 99);
               if a < 1000000 { return 2 * a + 3 * b; } if c mod 7 == d mod 7 { return 0 - a; } return b + c; }""")
CONDITIONS = [le(num(6), OUT), eq(OUT, num(4)), ne(mod(OUT, 3), num(1)), lt(OUT, num(0)), le(num(0), num(0)), lt(num(0), num(0)),
              both(lt(num(1), OUT), no(eq(OUT, num(4)))), either(lt(OUT, num(-2)), eq(mod(OUT, 4), num(0)))]
NOT_CONDITIONS = any_objects() + [OUT, lt(name("x"), OUT), ("lt", OUT), ("not", OUT), lt(name("outer"), num(0)), "out"]


def added(fractions):
    total = sum([Fraction(n, d) for n, d in fractions])
    return (total.numerator, total.denominator) if fractions else (0, 1)


def weighed_runs(program, steps, most=400):
    """(chance, inputs, sides, why) of all runs that do not ask, each input being drawn alike; None for too many."""
    found, waiting = [], [((1, 1), [])]
    runs = all_runs(program, steps, most)
    if runs is None:
        return None
    known = {tuple(inputs): (sides, why) for inputs, sides, why in runs}
    while waiting:
        (n, d), inputs = waiting.pop()
        if tuple(inputs) in known:
            found.append(((n, d), inputs, *known[tuple(inputs)]))
            continue
        low, high = any_range(program, path_of(program, inputs, steps)[1])
        waiting.extend(((n, d * (high - low + 1)), [*inputs, one]) for one in range(high, low - 1, -1))
    return found


def chance_by(runs, lets):
    return added([chance for chance, _, sides, why in runs if lets(sides, why)])


class OutcomesTest(unittest.TestCase):
    def programs(self, seed, many=20):
        source = random.Random(seed)
        for program in [E, TWO, STUCK, NONE, p_program()] + [random_program(source) for _ in range(many)]:
            steps = source.choice((0, 4, 9, 25))
            runs = weighed_runs(program, steps)
            if runs is not None:
                yield program, steps, runs

    def test_example(self):
        self.assertEqual(shape(told(self, chances, program=E, steps=9, many=9)), shape([(1, 5), (1, 10), (7, 10)]))
        self.assertEqual(shape(told(self, chance_of_all, program=E, steps=9, some=[[0, 0], [1]])), shape((9, 10)))
        self.assertEqual(told(self, chance_of, program=E, steps=9, many=9, why=("breaks", "main", 2)), (1, 10))
        self.assertEqual(told(self, chance_ending, program=E, steps=9, many=9, condition=le(num(6), OUT)), (7, 10))
        self.assertEqual(shape(told(self, ending, program=E, steps=9, many=9, condition=eq(OUT, num(4)))),
                         shape(("met", [0, 0], [2])))
        word, refutations = told(self, ending, program=E, steps=9, many=9, condition=eq(OUT, num(3)))
        self.assertEqual((word, len(refutations)), ("never", 2))
        self.assertEqual(shape(told(self, least_outcome, program=E, steps=9, many=9)), shape((0, [0, 0], [0])))
        self.assertEqual(shape(told(self, greatest_outcome, program=E, steps=9, many=9)), shape((18, [1], [9])))

    def test_chances_are_those_of_all_inputs(self):
        for program, steps, runs in self.programs(1):
            found = chances(program, steps, 10 ** 6)
            told_paths = paths(program, steps, 10 ** 6)
            self.assertEqual(added(found), (1, 1))
            self.assertTrue(all(n > 0 for n, _ in found))
            for (sides, why, inputs), chance in zip(told_paths, found):
                self.assertEqual(chance, chance_by(runs, lambda other, _: other == sides))
                _, ranges, conditions, _ = followed(program, sides, steps)
                widths = math.prod(high - low + 1 for low, high in ranges)
                self.assertEqual(chance, added([(count(ranges, conditions), widths)]))
            lots = [sides for sides, _, _ in told_paths]
            self.assertEqual(chance_of_all(program, steps, lots), (1, 1))
            self.assertEqual(chance_of_all(program, steps, []), (0, 1))
            for at in range(len(lots)):
                fewer = lots[:at] + lots[at + 1:]
                self.assertEqual(chance_of_all(program, steps, fewer[::-1]), added([chance for to, chance in enumerate(found)
                                                                                   if to != at]))
                self.assertNotEqual(chance_of_all(program, steps, fewer), (1, 1))

    def test_paths_that_no_inputs_take_have_no_chance(self):
        self.assertEqual(chance_of_all(E, 9, [[0, 0]]), (1, 5))
        program = read("def main() { x = any(0, 3); if x < 9 { return 1; } return 2; }")
        self.assertEqual(told(self, chance_of_all, program=program, steps=9, some=[[1], [0]]), (1, 1))
        self.assertEqual(chance_of_all(program, 9, ([1],)), (0, 1))
        self.assertEqual(chance_of_all(program, 1, [[]]), (1, 1))

    def test_how_runs_stop(self):
        for program, steps, runs in self.programs(2):
            whys = [("going",), ("breaks", "main", 0), ("barred", "main", 2)]
            whys += [why for _, _, _, why in runs if why[0] in ("breaks", "barred")][:6]
            for why in whys:
                expected = chance_by(runs, lambda _, other: other == why)
                self.assertEqual(chance_of(program, steps, 10 ** 6, why), expected)
                self.assertEqual(chance_of(program, steps, 10 ** 6, list(why)), expected)
        self.assertEqual(told(self, chance_of, program=STUCK, steps=60, many=90, why=("going",)), (4, 5))
        self.assertEqual(told(self, chance_of, program=NONE, steps=60, many=90, why=("breaks", "main", 1)), (1, 1))

    def test_how_runs_end(self):
        met = 0
        for program, steps, runs in self.programs(3):
            for condition in CONDITIONS:
                def lets(_, why):
                    return why[0] == "ends" and holds(condition, {"out": why[1]})
                self.assertEqual(chance_ending(program, steps, 10 ** 6, condition), chance_by(runs, lets))
                found = ending(program, steps, 10 ** 6, condition)
                fitting = [(sides, inputs) for _, inputs, sides, why in runs if lets(sides, why)]
                if found[0] == "met":
                    met += 1
                    self.assertEqual(found, ("met", *min(fitting)))
                    continue
                self.assertEqual((found[0], fitting), ("never", []))
                self.check_never(program, steps, condition, found[1])
        self.assertGreater(met, 40)

    def check_never(self, program, steps, condition, refutations):
        """That it is taken, each refutation being one by its own words, and that what is changed is not."""
        ends = [sides for sides, why, _ in paths(program, steps, 10 ** 6) if why[0] == "ends"]
        self.assertEqual(len(refutations), len(ends))
        for sides, refutation in zip(ends, refutations):
            (_, value), ranges, conditions, _ = followed(program, sides, steps)
            self.assertTrue(is_refutation(ranges, [*conditions, put(condition, value)], refutation))
        self.assertIs(is_never(program, steps, 10 ** 6, condition, refutations), True)
        self.assertIs(is_never(program, steps, 10 ** 6, condition, tuple(refutations)), True)
        changed = [[*refutations, ("rows", [("sums", [[0]])])], refutations[:-1] if refutations else None, ("never", refutations)]
        changed += [[*refutations[:at], thing, *refutations[at + 1:]] for at in range(len(refutations))
                    for thing in (None, ("rows", []), ("rows", [("sums", [])]), ("or", 0, []), [refutations[at]])]
        for thing in changed:
            self.assertIs(is_never(program, steps, 10 ** 6, condition, thing), False, thing)
        many = len(paths(program, steps, 10 ** 6))
        if many > 1:
            self.assertIs(is_never(program, steps, many - 1, condition, refutations), False)

    def test_never(self):
        condition = eq(OUT, num(3))
        refutations = ending(E, 9, 9, condition)[1]
        self.check_never(E, 9, condition, refutations)
        self.assertIs(told(self, is_never, program=E, steps=9, many=9, condition=condition, thing=refutations), True)
        self.assertIs(is_never(E, 9, 9, eq(OUT, num(4)), refutations), False)
        self.assertIs(is_never(E, 9, 9, condition, refutations[::-1]), False)
        self.assertIs(is_never(E, 9, 2, condition, refutations), False)
        self.assertIs(is_never(NONE, 9, 9, condition, []), True)
        self.assertIs(is_never(NONE, 9, 9, condition, ()), True)
        self.assertEqual(told(self, ending, program=NONE, steps=9, many=9, condition=condition), ("never", []))
        for thing in any_objects():
            self.assertIs(is_never(E, 9, 9, condition, thing), False)
            self.assertIs(is_never(E, 9, 9, condition, [thing, refutations[1]]), False)
            self.assertIs(is_never(E, 9, 9, condition, [refutations[0], ("rows", thing)]), False)
            self.assertIs(is_never(E, 9, 9, condition, [thing, thing]), False)
            if thing not in ([], ()):
                self.assertIs(is_never(NONE, 9, 9, condition, thing), False)

    def test_least_and_greatest(self):
        some = 0
        for program, steps, runs in self.programs(4, 35):
            ends = [(why[1], sides, inputs) for _, inputs, sides, why in runs if why[0] == "ends"]
            some += len(ends) > 3
            self.assertEqual(least_outcome(program, steps, 10 ** 6), min(ends, default=()))
            self.assertEqual(greatest_outcome(program, steps, 10 ** 6),
                             min(ends, key=lambda end: (-end[0], end[1:]), default=()))
        self.assertGreater(some, 8)
        self.assertEqual(told(self, least_outcome, program=NONE, steps=9, many=9), ())
        self.assertEqual(told(self, greatest_outcome, program=STUCK, steps=2, many=9), ())

    def test_paths_with_the_same_outcome(self):
        """The least path counts, though by the ranges alone another one might come to less, or to more."""
        text = """def main() { x = any(0, 9); y = any(0, 9); if x < 2 { return A; } if x < 5 { assume y >= x + 3; assume y <= x + 5;
                  return y - x; } return B; }"""
        for one, other, least, greatest in ((3, 3, (3, [0], [0, 0]), (5, [1, 0, 0, 0], [2, 7])),
                                            (4, 2, (2, [1, 1], [5, 0]), (5, [1, 0, 0, 0], [2, 7])),
                                            (4, 3, (3, [1, 0, 0, 0], [2, 5]), (5, [1, 0, 0, 0], [2, 7])),
                                            (5, 6, (3, [1, 0, 0, 0], [2, 5]), (6, [1, 1], [5, 0])),
                                            (5, 5, (3, [1, 0, 0, 0], [2, 5]), (5, [0], [0, 0])),
                                            (2, 2, (2, [0], [0, 0]), (5, [1, 0, 0, 0], [2, 7])),
                                            (4, 5, (3, [1, 0, 0, 0], [2, 5]), (5, [1, 0, 0, 0], [2, 7]))):
            program = read(text.replace("A", str(one)).replace("B", str(other)))
            self.assertEqual(least_outcome(program, 30, 9), least)
            self.assertEqual(greatest_outcome(program, 30, 9), greatest)

    def test_great_ranges(self):
        self.assertEqual(told(self, least_outcome, program=WIDE, steps=20, many=9),
                         (-12000000, [0], [0, -4000000, 0, 0]))
        self.assertEqual(told(self, greatest_outcome, program=WIDE, steps=20, many=9), (1999998, [0], [999999, 0, 0, 0]))
        condition = both(eq(mod(OUT, 7), num(3)), lt(num(90), OUT))
        self.assertEqual(told(self, ending, program=WIDE, steps=20, many=9, condition=condition), ("met", [0], [47, 0, 0, 0]))
        self.assertEqual(chances(WIDE, 20, 9)[0], (1000000, 4000001))
        self.assertEqual(added(chances(WIDE, 20, 9)), (1, 1))
        narrow = read("def main() { b = any(-4000000, 0); c = any(0, 99); d = any(0, 99); if c mod 7 == d mod 7 { b = b + c; } return b; }")
        self.assertEqual(told(self, chance_ending, program=narrow, steps=20, many=9, condition=lt(num(99), OUT)), (0, 1))
        expected = sum(c for c in range(100) for d in range(100) if c % 7 == d % 7)
        self.assertEqual(chance_ending(narrow, 20, 9, lt(num(0), OUT)), added([(expected, 4000001 * 10000)]))

    def test_more_than_many(self):
        for function, behind in ((chances, ()), (chance_of, (("going",),)), (chance_ending, (le(num(0), num(0)),)),
                                 (ending, (lt(num(0), num(0)),)), (least_outcome, ()), (greatest_outcome, ())):
            self.assertIsNone(function(E, 9, 2, *behind))
            self.assertIsNotNone(function(E, 9, 3, *behind))

    def test_refusals(self):
        functions = ((chances, 0), (chance_of, 1), (chance_ending, 1), (ending, 1), (is_never, 2), (least_outcome, 0),
                     (greatest_outcome, 0))
        for function, behind in functions:
            for thing in any_objects():
                if not isinstance(thing, Program):
                    refused(self, BadProgram, thing, function, thing, *[None] * (behind + 2))
            for thing in NOT_STEPS:
                refused(self, BadSteps, thing, function, E, thing, *[None] * (behind + 1))
            for thing in NOT_MANY:
                refused(self, BadMany, thing, function, E, 3, thing, *[None] * behind)
        for thing in any_objects():
            if not isinstance(thing, Program):
                refused(self, BadProgram, thing, chance_of_all, thing, None, None)
            if thing not in ([], ()):
                refused(self, BadSome, thing, chance_of_all, E, 9, thing)
                refused(self, BadSome, (some := [[0, 0], thing]), chance_of_all, E, 9, some)
            refused(self, BadWhy, thing, chance_of, E, 9, 1, thing)
            if type(thing) is not int or not 0 <= thing < 8:
                refused(self, BadWhy, (why := ("breaks", "main", thing)), chance_of, E, 9, 1, why)
        for thing in NOT_STEPS:
            refused(self, BadSteps, thing, chance_of_all, E, thing, None)
        for some in ([[0]], [[0, 0], (0, 0)], [[1], [0, 1], [1]], [[0, 0, 0]], [[1, 0]], [[]], [[2]], [[True]], [0, 0], [[0, 0], [1], None]):
            refused(self, BadSome, some, chance_of_all, E, 9, some)
        for why in (("ends", 2), ("ends",), ("asks", "main", 0), ("breaks", "main", 8), ("breaks", "man", 0), ("barred", "main", -1),
                    ("barred", "main", True), ("going", 1), ("sides",), "going", ("breaks", "main"), ("breaks",), ("broken", "main", 0)):
            refused(self, BadWhy, why, chance_of, E, 9, 1, why)
        for thing in NOT_CONDITIONS:
            refused(self, BadCondition, thing, chance_ending, E, 9, 1, thing)
            refused(self, BadCondition, thing, ending, E, 9, 1, thing)
            refused(self, BadCondition, thing, is_never, E, 9, 1, thing, None)


def put(tree, value):
    if tree == OUT:
        return value
    return tuple(put(part, value) if isinstance(part, tuple) else part for part in tree)


if __name__ == "__main__":
    unittest.main()

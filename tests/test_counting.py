"""[21.1]: counts."""

import itertools
import random
import unittest

from everypath.counting import count
from everypath.covers import paths
from everypath.paths import followed
from everypath.refusals import BadConditions, BadRanges
from tests.helpers import (add, any_objects, both, div, either, eq, le, lt, mod, name, ne, no, num, p_program, refused,
                           sub, times, told)
from tests.test_paths import random_program
from tests.test_zonesteps import holds, random_condition
from tests.texts import main_of

U, V, W = name("u0"), name("u1"), name("u2")


def one_by_one(ranges, conditions):
    lists = itertools.product(*[range(low, high + 1) for low, high in ranges])
    return sum(all(holds(condition, {f"u{at}": n for at, n in enumerate(numbers)}) for condition in conditions)
               for numbers in lists)


def over_unknowns(tree, many):
    """The tree with unknowns, or numbers where there are none, for the names x, y, z."""
    if not isinstance(tree, tuple):
        return tree
    if tree[0] == "name":
        return ("name", f"u{'xyz'.index(tree[1]) % many}") if many else ("number", 3)
    return tuple(over_unknowns(part, many) for part in tree)


class CountingTest(unittest.TestCase):
    def test_counts(self):
        for ranges, conditions, found in (
                ([], [], 1), ([(3, 3)], [], 1), ([(-2, 2), (0, 9)], [], 50), ([], [lt(num(0), num(1))], 1),
                ([], [lt(num(1), num(1))], 0), ([(0, 9)], [lt(num(1), num(1))], 0), ([(0, 9)], [lt(U, num(3))], 3),
                ([(0, 9)], [ne(U, num(3))], 9), ([(0, 9)], [eq(U, num(30))], 0), ([(0, 9)], [lt(U, num(-3))], 0),
                ([(0, 9)] * 2, [lt(U, V)], 45), ([(0, 9)] * 2, [le(U, V)], 55), ([(0, 9)] * 2, [eq(add(U, V), num(9))], 10),
                ([(0, 9)], [eq(mod(U, 3), num(1))], 3), ([(0, 9)], [no(eq(div(U, 3), num(1)))], 7),
                ([(0, 9)], [either(lt(U, num(2)), lt(num(7), U)), no(eq(U, num(8)))], 3),
                ([(0, 9)], [either(lt(U, num(5)), lt(num(3), U))], 10), ([(0, 9)], [either(le(U, num(4)), lt(num(4), U))], 10),
                ([(0, 9)], [both(lt(num(2), U), no(lt(num(4), U)))], 2), ([(0, 9)], [eq(times(3, U), num(12))], 1),
                ([(0, 9)], [eq(times(3, U), num(13))], 0), ([(0, 9)], [lt(times(-3, U), num(-13))], 5),
                ([(0, 9)], [eq(sub(U, U), num(0))], 10), ([(0, 9)], [eq(sub(div(U, 3), div(U, 3)), num(1))], 0)):
            self.assertEqual(told(self, count, ranges=ranges, conditions=conditions), found)

    def test_one_by_one(self):
        source = random.Random(1)
        above = 0
        for _ in range(500):
            many = source.randrange(4)
            ranges = [(low, low + source.randrange(6)) for low in (source.randrange(-4, 4) for _ in range(many))]
            conditions = [over_unknowns(random_condition(source, source.randrange(4), "xyz"), many)
                          for _ in range(source.randrange(4))]
            found = count(ranges, conditions)
            self.assertEqual(found, one_by_one(ranges, conditions))
            above += found > 0
        self.assertGreater(above, 100)

    def test_what_does_not_hang_together(self):
        wide = (0, 4 * 10 ** 6)
        self.assertEqual(count([wide] * 20, []), (4 * 10 ** 6 + 1) ** 20)
        conditions = [lt(name(f"u{at}"), num(at)) for at in range(20)]
        self.assertEqual(count([wide] * 20, conditions[1:]), (4 * 10 ** 6 + 1) * 121645100408832000)
        pairs = [eq(mod(add(name(f"u{at}"), name(f"u{at + 1}")), 7), num(3)) for at in range(0, 20, 2)]
        self.assertEqual(count([(0, 99)] * 20, pairs), one_by_one([(0, 99)] * 2, pairs[:1]) ** 10)
        self.assertEqual(count([(0, 99)] * 20, [*pairs, lt(num(3), num(3))]), 0)
        both_lots = [both(lt(U, V), eq(mod(W, 2), num(1)))]
        self.assertEqual(count([(0, 999), (0, 9), (0, 9)], both_lots), 45 * 5)

    def test_one_great_range(self):
        wide = (-2 * 10 ** 6, 2 * 10 ** 6)
        self.assertEqual(count([(0, 99), wide, (0, 99)], [lt(V, add(U, W)), le(num(0), V)]), 990000)
        self.assertEqual(count([wide], [no(eq(U, num(7))), either(lt(U, num(0)), lt(num(5), U))]), 4 * 10 ** 6 - 6)
        self.assertEqual(count([wide, (0, 99)], [eq(times(4, U), add(mod(V, 3), div(V, 25)))]),
                         one_by_one([(-9, 9), (0, 99)], [eq(times(4, U), add(mod(V, 3), div(V, 25)))]))
        small = [either(both(lt(U, V), ne(U, W)), eq(mod(add(V, W), 3), num(0))), lt(num(-5), U), lt(U, num(9))]
        self.assertEqual(count([wide, (0, 9), (0, 9)], small), one_by_one([(-4, 8), (0, 9), (0, 9)], small))

    def test_quotients_within_quotients(self):
        deep = div(add(mod(div(add(U, times(3, V)), 4), 5), times(2, mod(U, 6))), 3)
        for conditions in ([eq(deep, num(2))], [lt(deep, V), ne(mod(deep, 2), num(1))], [either(eq(deep, W), lt(W, U))]):
            ranges = [(-9, 9), (0, 7), (0, 3)]
            self.assertEqual(count(ranges, conditions), one_by_one(ranges, conditions))

    def test_all_paths_together(self):
        source = random.Random(2)
        for program in [p_program(), main_of("x = any(1, 60); while x != 1 { if x mod 2 == 0 { x = x // 2; } else "
                                             "{ x = 3 * x + 1; } }")] + [random_program(source) for _ in range(15)]:
            found = paths(program, 20, 300)
            if found is None:
                continue
            widths = {}
            for sides, _, _ in found:
                _, ranges, conditions, _ = followed(program, sides, 20)
                whole = 1
                for low, high in ranges:
                    whole *= high - low + 1
                many = count(ranges, conditions)
                self.assertGreater(many, 0)
                widths[whole] = widths.get(whole, 0) + many
            greatest = max(widths)
            self.assertEqual(sum(many * greatest // whole for whole, many in widths.items()
                                 if greatest % whole == 0), greatest)

    def test_refusals(self):
        for thing in [thing for thing in any_objects() if thing not in ([], ())] + [[(1, 0)], [(0,)], [(0, True)], [3]]:
            refused(self, BadRanges, thing, count, thing, 5)
        for thing in [thing for thing in any_objects() if thing not in ([], ())] + [
                [lt(V, num(1))], [lt(name("x"), num(1))], [U], [lt(U, True)], [("and", lt(U, U))], [lt(U, U), None]]:
            refused(self, BadConditions, thing, count, [(0, 3)], thing)


if __name__ == "__main__":
    unittest.main()

"""[15.1] to [15.7]: systems."""

import itertools
import random
import unittest
from unittest import mock

from everypath import solving, thinslices
from everypath.refusals import BadFactors, BadSystem
from everypath.systems import greatest_of, is_met, is_none, least_of, solved
from tests.helpers import any_objects, refused, shape, told

WIDE = [(0, 1000000), (0, 1000000)]
ODD = (WIDE, [([2, -2], 1), ([-2, 2], -1)])
ODD_REFUTED = [("sums", [[0, 1, 0, 0, 0, 0], [1, 0, 0, 0, 0, 0, 2]])]
SLANTED = (WIDE, [([-3, -2], -10), ([2, 3], 11)])
NOT_SYSTEMS = any_objects() + [
    ([(1, 0)], []), ([(0, True)], []), ([(0,)], []), ([0], []), ([(0, 1)], [([1, 1], 0)]), ([(0, 1)], [([], 0)]),
    ([(0, 1)], [([True], 0)]), ([(0, 1)], [([1], None)]), ([(0, 1)], [([1], False)]), ([(0, 1)], [([1],)]), ([(0, 1)],),
    ([(0, 1)], [], []), ({}, []), ([(0, 1)], None), ([(0, 1)], [[1]]), ([(0, "1")], []), ("", ""), [[(0, 1)], ["ab"]]]


def values_of(system):
    """All values that meet a system, ascending."""
    ranges, rows = system
    return [list(values) for values in itertools.product(*[range(low, high + 1) for low, high in ranges])
            if all(sum(f * x for f, x in zip(factors, values)) <= bound for factors, bound in rows)]


def random_system(source, most=4):
    many = source.randrange(most + 1)
    ranges = [(low, low + source.randrange(5)) for low in (source.randrange(-5, 5) for _ in range(many))]
    high = source.choice((3, 15, 40))
    rows = [([source.randrange(-7, 8) for _ in range(many)], source.randrange(-15, high))
            for _ in range(source.randrange(5))]
    for _ in range(source.choice((0, 0, 0, 1, 2))):
        factors = [source.choice((1, 2, 3)) * source.randrange(-5, 6) for _ in range(many)]
        bound = source.randrange(-9, 9)
        rows += [(factors, bound), ([-factor for factor in factors], -bound)]
    return ranges, rows


class SystemsTest(unittest.TestCase):
    def test_example(self):
        self.assertIs(told(self, is_none, system=ODD, thing=ODD_REFUTED), True)
        kind, refutation = told(self, solved, system=ODD)
        self.assertEqual(kind, "none")
        self.assertTrue(is_none(ODD, refutation))
        self.assertEqual(told(self, solved, system=SLANTED), ("values", [2, 2]))
        kind, n, values, refutation = told(self, least_of, system=SLANTED, factors=[1, 1])
        self.assertEqual((kind, n, values), ("least", 4, [2, 2]))
        less = (WIDE, [*SLANTED[1], ([1, 1], 3)])
        self.assertTrue(is_none(less, refutation))
        self.assertTrue(is_none(less, [("sums", [[1, 0, 3, 0, 0, 1, 0]])]))

    def test_small_systems(self):
        source = random.Random(1)
        none = 0
        for _ in range(700):
            system = random_system(source)
            all_values = values_of(system)
            found = solved(system)
            if all_values:
                self.assertEqual(shape(found), shape(("values", all_values[0])))
            else:
                none += 1
                self.assertEqual(found[0], "none")
                self.assertIs(is_none(system, found[1]), True)
        self.assertTrue(150 < none < 550)

    def test_least_and_greatest_of_small_systems(self):
        source = random.Random(2)
        for _ in range(300):
            system = random_system(source, 3)
            ranges, rows = system
            factors = [source.randrange(-6, 7) * source.choice((0, 1, 1)) for _ in ranges]
            all_values = values_of(system)
            for function, word, sign in ((least_of, "least", 1), (greatest_of, "greatest", -1)):
                found = function(system, factors)
                if not all_values:
                    self.assertEqual(found[0], "none")
                    self.assertTrue(is_none(system, found[1]))
                    continue
                n, values = min((sign * sum(f * x for f, x in zip(factors, values)), values) for values in all_values)
                self.assertEqual(shape(found[:3]), shape((word, sign * n, values)))
                row = ([sign * factor for factor in factors], n - 1)
                self.assertIs(is_none((ranges, [*rows, row]), found[3]), True)

    def test_slices_alone(self):
        """Where no cuts and no narrowed ranges are let, all is found by slices."""
        source = random.Random(5)
        for _ in range(150):
            with mock.patch.object(solving, "CUTS", 0), mock.patch.object(solving, "FEW_LOOKS", -1), \
                    mock.patch.object(solving, "MANY_LOOKS", -1), \
                    mock.patch.object(thinslices, "CUTS", source.randrange(3)):
                self.found_and_least(source)

    def test_narrowed_ranges_alone(self):
        """Where no cuts and no slices are let first, nearly all is found by narrowed ranges."""
        source = random.Random(8)
        with mock.patch.object(solving, "CUTS", 0), mock.patch.object(solving, "FEW_SLICES", 0):
            for _ in range(200):
                self.found_and_least(source)

    def found_and_least(self, source):
        """Checks what is told of a random system."""
        system = random_system(source)
        all_values = values_of(system)
        factors = [source.randrange(-6, 7) for _ in system[0]]
        found = solved(system)
        least = least_of(system, factors)
        if all_values:
            self.assertEqual(found, ("values", all_values[0]))
            n = least[1]
            self.assertEqual(n, min(sum(f * x for f, x in zip(factors, values)) for values in all_values))
            self.assertIs(is_none((system[0], [*system[1], (factors, n - 1)]), least[3]), True)
        else:
            self.assertIs(is_none(system, found[1]), True)
            self.assertIs(is_none(system, least[1]), True)

    def test_thin_bands(self):
        """Eight unknowns, five sums of which have two values each: cuts alone would take very long."""
        source = random.Random(6)
        wide = 10 ** 9
        for _ in range(2):
            rows = []
            for _ in range(5):
                factors = [source.randrange(-100, 101) for _ in range(8)]
                low = sum(f * source.randrange(-wide, wide) for f in factors) // 10
                rows += [(factors, low + 1), ([-factor for factor in factors], -low)]
            system = ([(-wide, wide)] * 8, rows)
            kind, values = solved(system)
            self.assertEqual(kind, "values")
            self.assertTrue(is_met(system, values))
            factors = [source.randrange(-100, 101) for _ in range(8)]
            kind, n, least, refutation = least_of(system, factors)
            self.assertEqual((kind, n), ("least", sum(f * x for f, x in zip(factors, least))))
            self.assertTrue(is_met(system, least) and values <= least)
            self.assertIs(is_none((system[0], [*rows, (factors, n - 1)]), refutation), True)

    def test_edges(self):
        self.assertEqual(told(self, solved, system=([], [])), ("values", []))
        self.assertEqual(told(self, solved, system=([], [([], 0)])), ("values", []))
        kind, refutation = told(self, solved, system=([], [([], 0), ([], -1)]))
        self.assertEqual((kind, is_none(([], [([], 0), ([], -1)]), refutation)), ("none", True))
        self.assertEqual(solved(([(3, 3), (-4, 9)], [])), ("values", [3, -4]))
        self.assertEqual(told(self, least_of, system=([(2, 5)], []), factors=[0])[:3], ("least", 0, [2]))
        self.assertEqual(told(self, greatest_of, system=([(2, 5)], []), factors=[3])[:3], ("greatest", 15, [5]))
        self.assertEqual(told(self, greatest_of, system=([], []), factors=[])[:3], ("greatest", 0, []))
        self.assertEqual(greatest_of(([(0, 9), (0, 9)], [([1, 1], 12)]), [1, 1])[:3], ("greatest", 12, [3, 9]))
        self.assertEqual(least_of(ODD, [1, 0])[0], "none")
        self.assertEqual(greatest_of(ODD, [1, 0])[0], "none")

    def test_great_ranges(self):
        wide = (-10 ** 9, 10 ** 9)
        for ranges, rows, expected in (
                ([wide] * 2, [([100, -99], 1), ([-100, 99], -1)], [-999999999 + 80, None]),
                ([wide] * 3, [([6, 10, 15], 1), ([-6, -10, -15], -1), ([-1, 0, 0], 0), ([0, -1, 0], 0)], [0, 1, None]),
                ([(0, 10 ** 9)] * 3, [([6, 9, 20], 43), ([-6, -9, -20], -43)], None),
                ([wide] * 3, [([6, 9, 15], 10 ** 12 + 1), ([-6, -9, -15], -10 ** 12 - 1)], None),
                ([(0, 4 * 10 ** 6)] + [(0, 10 ** 6)] * 3,
                 [([1, -97, 0, 0], 3), ([-1, 97, 0, 0], -3), ([1, 0, -89, 0], 5), ([-1, 0, 89, 0], -5),
                  ([1, 0, 0, -83], 2), ([-1, 0, 0, 83], -2)], [498583, 5140, 5602, 6007])):
            kind, found = solved((ranges, rows))
            if expected is None:
                self.assertEqual(kind, "none")
                self.assertTrue(is_none((ranges, rows), found))
                continue
            self.assertTrue(is_met((ranges, rows), found))
            if None not in expected:
                self.assertEqual(found, expected)
            for at in range(len(found) if None in expected else 0):
                less = [([1 if i == at else 0 for i in range(len(ranges))], found[at] - 1)]
                same = [row for i in range(at) for row in
                        (([1 if j == i else 0 for j in range(len(ranges))], found[i]),)]
                kind, refutation = solved((ranges, [*rows, *same, *less]))
                self.assertEqual(kind, "none")
                self.assertTrue(is_none((ranges, [*rows, *same, *less]), refutation))

    def test_eight_unknowns(self):
        source = random.Random(3)
        for _ in range(4):
            inside = [source.randrange(-10 ** 9, 10 ** 9) for _ in range(8)]
            rows = []
            for _ in range(24):
                factors = [source.randrange(-100, 101) for _ in range(8)]
                rows.append((factors, sum(f * x for f, x in zip(factors, inside)) + source.randrange(30)))
            system = ([(-10 ** 9, 10 ** 9)] * 8, rows)
            kind, found = solved(system)
            self.assertEqual(kind, "values")
            self.assertTrue(is_met(system, found) and found <= inside)
            factors = [source.randrange(-100, 101) for _ in range(8)]
            kind, n, values, refutation = least_of(system, factors)
            self.assertTrue(kind == "least" and is_met(system, values))
            self.assertEqual(n, sum(f * x for f, x in zip(factors, values)))
            self.assertTrue(is_none((system[0], [*rows, (factors, n - 1)]), refutation))

    def test_is_met(self):
        self.assertIs(told(self, is_met, system=SLANTED, thing=[2, 2]), True)
        self.assertIs(is_met(([], []), ()), True)
        self.assertIs(is_met(([], [([], -1)]), []), False)
        for thing in any_objects() + [[2], [2, 2, 0], [2, True], [2, -1], [0, 5], [4, 2], [1000001, 0], ["2", 2], "22"]:
            self.assertIs(is_met(SLANTED, thing), False)
        source = random.Random(4)
        for _ in range(100):
            system = random_system(source, 2)
            inside = values_of(system)
            for values in itertools.product(range(-6, 10), repeat=len(system[0])):
                self.assertIs(is_met(system, values), list(values) in inside)

    def test_is_none_of_wrong_things(self):
        sums = ODD_REFUTED[0][1]
        wrong = [
            [], [("sums", [])], [("sums", sums), ("sums", sums)], [("sums", sums, 0)], [("sum", sums)],
            [("sums", sums[:1])], [("sums", sums[1:])], [("sums", [sums[0], sums[1][:6]])],
            [("sums", [sums[0], [1, 0, 0, 0, 0, 0, 1]])], [("sums", [sums[0], [True, 0, 0, 0, 0, 0, 2]])],
            [("sums", [[1, 1, 0, 0, 0, 0], [1, 0, 0, 0, 0, 0, 2]])], [("sums", [[0] * 6])],
            [("sums", [[0, 1, 0, 0, 0, 0], [-1, 0, 0, 0, 0, 0, 2]])], [("sums", [[0, -1, 0, 0, 0, 0], sums[1]])],
            [("sums", [sums[0], sums[1], sums[1]])], ("sums", sums), [sums], [("sums", None)], [("sums", [None])],
            [("split", 0, 5)], [("split", 0, 5), ODD_REFUTED[0]], [("split", 2, 5)], [("sums", [[1, 1, 0, 0, 0, 0]])]]
        for thing in any_objects() + wrong:
            self.assertIs(is_none(ODD, thing), False)
            self.assertIs(is_none(SLANTED, thing), False)
            self.assertIs(is_none(([], []), thing), False)
        self.assertIs(is_none(([], [([], -1)]), [("sums", [[1]])]), True)
        self.assertIs(is_none(([], [([], -1)]), [("sums", [[1], [1, 0]])]), False)

    def test_splits(self):
        system = ([(0, 3)], [([-2], -1), ([2], 1)])
        one, other = ("sums", [[1, 0, 0, 0, 2]]), ("sums", [[0, 1, 0, 0, 2]])
        self.assertIs(told(self, is_none, system=system, thing=[("split", 0, 0), one, other]), True)
        self.assertIs(is_none(system, [("split", 0, 0), other, one]), False)
        self.assertIs(is_none(system, [("split", 0, 0), one]), False)
        self.assertIs(is_none(system, [("split", 0, 0), one, other, other]), False)
        again = [("split", 0, 0), one, ("split", 0, 7), ("sums", [[0, 1, 0, 0, 2, 0]]), ("sums", [[0, 1, 0, 0, 2, 0]])]
        self.assertIs(is_none(system, again), True)
        for split in (("split", 1, 0), ("split", -1, 0), ("split", True, 0), ("split", 0, None), ("split", 0, False),
                      ("split", 0), ("split", 0, 0, 0), ("part", 0, 0)):
            self.assertIs(is_none(system, [split, one, other]), False)

    def test_rounding_and_common_divisors(self):
        system = ([(-10, 10), (-10, 10)], [([4, -6], 1), ([-2, 3], -1)])
        self.assertIs(is_none(system, [("sums", [[1, 0, 0, 0, 0, 0], [0, 1, 0, 0, 0, 0, 1]])]), True)
        self.assertIs(is_none(system, [("sums", [[1, 2, 0, 0, 0, 0]])]), True)
        tight = ([(-10, 10), (-10, 10)], [([4, -6], 3), ([-2, 3], -1)])
        self.assertIs(is_none(tight, [("sums", [[1, 2, 0, 0, 0, 0]])]), False)
        self.assertEqual(solved(tight)[0], "values")

    def test_refusals(self):
        for thing in [thing for thing in NOT_SYSTEMS if thing not in ((),)]:
            refused(self, BadSystem, thing, is_met, thing, None)
            refused(self, BadSystem, thing, is_none, thing, None)
            refused(self, BadSystem, thing, solved, thing)
            refused(self, BadSystem, thing, least_of, thing, None)
            refused(self, BadSystem, thing, greatest_of, thing, None)
        for thing in any_objects() + [[1], [1, 2, 3], [1, True], [1, None], {0: 1, 1: 1}, "12"]:
            refused(self, BadFactors, thing, least_of, SLANTED, thing)
            refused(self, BadFactors, thing, greatest_of, ODD, thing)


if __name__ == "__main__":
    unittest.main()

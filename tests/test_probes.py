"""Narrowed ranges: least values and refutations with splits, told by themselves, and of conditions."""

import random
import unittest
from unittest import mock

from everypath import probes, solving
from everypath.deciding import decided, is_refutation
from everypath.probes import probed_values
from everypath.systems import is_none
from tests.helpers import add, div, eq, lt, mod, name, sub, times, told
from tests.test_counting import one_by_one
from tests.test_systems import values_of
from tests.test_zonesteps import holds

def tangled(source):
    """An expression of three pieces over three unknowns."""
    parts = []
    for _ in range(3):
        one, other = (name(f"u{source.randrange(3)}") for _ in range(2))
        both = add(times(source.randrange(1, 7), one), other)
        parts.append(source.choice((mod(both, source.randrange(2, 20)), div(both, source.randrange(2, 6)), one)))
    return sub(add(parts[0], parts[1]), parts[2])


def random_rows(source):
    many = source.randrange(4)
    ranges = [(low, low + source.randrange(7)) for low in (source.randrange(-4, 4) for _ in range(many))]
    rows = [([source.randrange(-5, 6) for _ in range(many)], source.randrange(-10, 12))
            for _ in range(source.randrange(6))]
    if source.random() < 0.4:
        # an even sum that is to be odd: narrowing alone does not see that
        factors, bound = [2 * source.randrange(-3, 4) for _ in range(many)], 2 * source.randrange(-3, 4) + 1
        rows += [(factors, bound), ([-factor for factor in factors], -bound)]
    return ranges, rows


class ProbesTest(unittest.TestCase):
    def test_values_and_refutations(self):
        source = random.Random(1)
        splits = 0
        for _ in range(600):
            system = random_rows(source)
            kind, found = probed_values(*system, 10 ** 6)
            all_values = values_of(system)
            if all_values:
                self.assertEqual((kind, found), ("values", all_values[0]))
            else:
                self.assertEqual(kind, "none")
                self.assertIs(is_none(system, found), True)
                splits += sum(item[0] == "split" for item in found)
        self.assertGreater(splits, 5)

    def test_given_up(self):
        ranges, rows = [(0, 300)] * 2, [([3, -3], -1), ([-3, 3], 2)]
        kind, found = probed_values(ranges, rows, 10 ** 6)
        self.assertEqual((kind, is_none((ranges, rows), found)), ("none", True))
        self.assertIsNone(probed_values(ranges, rows, 20))
        with mock.patch.object(probes, "SUMS", 3):
            self.assertIsNone(probed_values(ranges, rows, 10 ** 6))

    def test_narrowed_by_little_each_time(self):
        ranges, rows = [(0, 10 ** 6)] * 2, [([1, -1], -1), ([-1, 1], 0)]
        self.assertIsNone(probed_values(ranges, rows, 3000))
        ranges = [(0, 2000)] * 2
        with mock.patch.object(probes, "SUMS", 10 ** 6):
            kind, found = probed_values(ranges, rows, 10 ** 6)
        self.assertEqual((kind, is_none((ranges, rows), found)), ("none", True))

    def test_refutations_of_conditions(self):
        """Splits are lifted to the system of all facts, wherever the unknowns stand there."""
        source = random.Random(3)
        splits = 0
        with mock.patch.object(solving, "CUTS", 0), mock.patch.object(solving, "FEW_SLICES", 0):
            for at in range(150):
                ranges = [(low, low + source.randrange(9)) for low in (source.randrange(-4, 4) for _ in range(3))]
                conditions = [source.choice((eq, eq, lt))(tangled(source), tangled(source)) for _ in range(3)]
                kind, found = decided(ranges, conditions) if at % 5 else told(
                    self, decided, ranges=ranges, conditions=conditions)
                if kind == "never":
                    self.assertIs(is_refutation(ranges, conditions, found), True)
                    self.assertEqual(one_by_one(ranges, conditions), 0)
                    splits += "split" in str(found)
                else:
                    values = {f"u{at}": n for at, n in enumerate(found)}
                    self.assertTrue(all(holds(condition, values) for condition in conditions))
        self.assertGreater(splits, 10)


if __name__ == "__main__":
    unittest.main()

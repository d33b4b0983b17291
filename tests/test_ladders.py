"""[10.1]: ladders."""

import random
import unittest

from everypath.errors import BadLadder, BadZone
from everypath.ladders import rounded
from tests.helpers import any_objects, refused, told
from tests.test_zones import NONE_LEFT, OVER_NONE, WRONG
from tests.zonesamples import random_zone

NOT_LADDERS = [thing for thing in any_objects() if thing not in ([], (), [0, 1, 2, 3])] + [
    [1, 1], [2, 1], [0, 1, 1], [0, 3, 2], [True], [0, True], [None], ["1"], [[1]], {0: 1}, "123"]


class LaddersTest(unittest.TestCase):
    def test_rounded(self):
        zone = (["x", "y"], {("x", "0"): 4, ("0", "x"): -3, ("x", "y"): 5, ("y", "0"): 9, ("y", "x"): -20},
                {"x": (4, 3), "y": (0, -7)})
        self.assertEqual(
            told(self, rounded, zone=zone, ladder=[-10, -3, 0, 5]),
            (["x", "y"], {("x", "0"): 5, ("0", "x"): -3, ("x", "y"): 5, ("y", "x"): -10}, {"x": (4, 3), "y": (0, -7)}))
        self.assertEqual(told(self, rounded, zone=zone, ladder=[]), (["x", "y"], {}, zone[2]))
        self.assertEqual(rounded(zone, [9])[1], {pair: 9 for pair in zone[1]})
        self.assertEqual(rounded(zone, (8,))[1], {pair: 8 for pair in zone[1] if pair != ("y", "0")})
        self.assertIsNone(told(self, rounded, zone=None, ladder=[1, 2]))
        self.assertEqual(told(self, rounded, zone=OVER_NONE, ladder=[1]), OVER_NONE)

    def test_nothing_is_closed(self):
        self.assertEqual(rounded(NONE_LEFT, [10 ** 9])[0], NONE_LEFT[0])
        source = random.Random(1)
        for _ in range(200):
            zone = random_zone(source, ("x", "y"), 0.6)
            ladder = sorted(source.sample(range(-6, 9), source.randrange(6)))
            found = rounded(zone, ladder)
            self.assertEqual((found[0], found[2]), (zone[0], zone[2]))
            for pair, bound in zone[1].items():
                self.assertEqual(found[1].get(pair), min([rung for rung in ladder if rung >= bound], default=None))
            self.assertEqual([pair for pair in found[1] if pair not in zone[1]], [])

    def test_refusals(self):
        for thing in WRONG + [thing for thing in any_objects() if thing is not None]:
            refused(self, BadZone, thing, rounded, thing, [2, 1])
        for thing in NOT_LADDERS:
            refused(self, BadLadder, thing, rounded, None, thing)
            refused(self, BadLadder, thing, rounded, OVER_NONE, thing)


if __name__ == "__main__":
    unittest.main()

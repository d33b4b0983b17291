"""[7.1] to [7.7]: zones."""

import random
import unittest

from everypath.errors import BadNames, BadThing, BadThings, BadZone
from everypath.zones import (closed, is_below, is_even, is_in, is_within, is_zone, joined, kept, met, renamed,
                             strip_in)
from everypath.strips import reduced
from tests.helpers import any_objects, listed, refused, told
from tests.zonesamples import (by_the_deeds, even_zone, grid, lies_in, random_zone, values_in)

Z = (["x", "y"], {("x", "y"): 1, ("y", "x"): -1, ("x", "0"): 9}, {"x": (1, 0), "y": (4, 2)})
NONE_LEFT = (["x"], {("x", "0"): 1, ("0", "x"): -2}, {"x": (1, 0)})
OVER_NONE = ([], {}, {})
WRONG = [
    (["y", "x"], {}, {"x": (1, 0), "y": (1, 0)}), (["x", "x"], {}, {"x": (1, 0)}), (["0"], {}, {"0": (1, 0)}),
    (["x", 1], {}, {"x": (1, 0), 1: (1, 0)}), ("x", {}, {"x": (1, 0)}), (["x"], {}, {}), (["x"], {}, {"y": (1, 0)}),
    (["x"], [], {"x": (1, 0)}), (["x"], {}, [("x", (1, 0))]), (["x"], {("x", "x"): 1}, {"x": (1, 0)}),
    (["x"], {("0", "0"): 1}, {"x": (1, 0)}), (["x"], {("x", "y"): 1}, {"x": (1, 0)}),
    (["x"], {("x", "0"): True}, {"x": (1, 0)}), (["x"], {("x", "0"): None}, {"x": (1, 0)}),
    (["x"], {"x0": 1}, {"x": (1, 0)}), (["x"], {("x",): 1}, {"x": (1, 0)}), (["x"], {("x", "0", "x"): 1}, {"x": (1, 0)}),
    (["x"], {("x", 0): 1}, {"x": (1, 0)}), (["x"], {3: 1}, {"x": (1, 0)}), (["x"], {}, {"x": (2, 2)}),
    (["x"], {}, {"x": (2, -1)}), (["x"], {}, {"x": (-1, 0)}), (["x"], {}, {"x": (True, 0)}),
    (["x"], {}, {"x": (0, False)}), (["x"], {}, {"x": (1,)}), (["x"], {}, {"x": None}), (["x"], {}, {"x": (1, 0), 3: 4}),
    (["x"], {}), (["x"], {}, {"x": (1, 0)}, {}), (["x"], None, {"x": (1, 0)}), [["x"], {}, {"x": "10"}]]


class ZonesTest(unittest.TestCase):
    def test_example(self):
        shut = told(self, closed, zone=Z)
        self.assertEqual(shut, (["x", "y"], {("x", "y"): 1, ("y", "x"): -1, ("x", "0"): 7, ("y", "0"): 6},
                                {"x": (4, 3), "y": (4, 2)}))
        self.assertEqual(told(self, strip_in, zone=Z, thing="x"), (None, 7, 4, 3))
        self.assertIs(told(self, is_even, zone=Z), False)
        other = (["x", "y"], {}, {"x": (0, 1), "y": (0, 2)})
        self.assertEqual(told(self, joined, zone=Z, other=other),
                         (["x", "y"], {("x", "y"): 1, ("y", "x"): 1, ("x", "0"): 7, ("y", "0"): 6},
                          {"x": (2, 1), "y": (4, 2)}))
        both = told(self, met, zone=Z, other=(["y"], {("0", "y"): -5}, {"y": (3, 0)}))
        self.assertEqual(both, (["x", "y"], {("x", "y"): 1, ("y", "x"): -1, ("x", "0"): 9, ("0", "y"): -5},
                                {"x": (1, 0), "y": (12, 6)}))
        self.assertEqual(closed(both)[2], {"x": (0, 7), "y": (0, 6)})

    def test_what_is_a_zone(self):
        for zone in (None, Z, NONE_LEFT, OVER_NONE, listed(Z), (("",), {("", "0"): -3}, {"": [0, -3]}),
                     (["1", "x", "x0"], {}, {"1": (1, 0), "x": (0, 0), "x0": (5, 4)})):
            self.assertIs(told(self, is_zone, thing=zone), True)
        for thing in WRONG + [thing for thing in any_objects() if thing is not None]:
            self.assertIs(is_zone(thing), False)

    def test_is_in(self):
        source = random.Random(1)
        for _ in range(200):
            zone = random_zone(source)
            for values in grid(zone[0], 3):
                self.assertIs(is_in(zone, values), lies_in(zone, values))
        self.assertIs(told(self, is_in, zone=Z, values={"x": 3, "y": 2}), True)
        self.assertIs(is_in(OVER_NONE, {}), True)
        self.assertIs(is_in(None, {}), False)
        full = (["x"], {}, {"x": (1, 0)})
        for values in any_objects() + [{"x": True}, {"x": 1, "y": 2}, {"x": "1"}, {}, [("x", 1)], {"x": None}, {0: 1}]:
            self.assertIs(is_in(full, values), False)
            self.assertIs(is_in(None, values), False)

    def test_closed_goes_by_the_deeds(self):
        source = random.Random(2)
        empty = 0
        for at in range(700):
            things = ("x", "y", "z")[:at % 4]
            zone = random_zone(source, things, source.choice((0.3, 0.6, 0.9)))
            expected = by_the_deeds(zone)
            self.assertEqual(closed(zone), expected)
            empty += expected is None
        self.assertTrue(100 < empty < 600)
        self.assertIsNone(told(self, closed, zone=None))
        self.assertIsNone(told(self, closed, zone=NONE_LEFT))
        self.assertEqual(told(self, closed, zone=OVER_NONE), OVER_NONE)
        self.assertEqual(told(self, closed, zone=(["a", "b"], {}, {"a": (0, 5), "b": (0, -2)})),
                         (["a", "b"], {("a", "b"): 7, ("b", "a"): -7, ("a", "0"): 5, ("0", "a"): -5, ("b", "0"): -2,
                                       ("0", "b"): 2}, {"a": (0, 5), "b": (0, -2)}))

    def test_closed_keeps_the_values(self):
        source = random.Random(3)
        for at in range(150):
            zone = random_zone(source, ("x", "y", "z")[:1 + at % 3])
            shut = closed(zone)
            self.assertEqual(values_in(shut), values_in(zone))
            self.assertIs(is_below(shut, zone), True)

    def test_even_zones_are_exact(self):
        source = random.Random(4)
        for at in range(200):
            zone = even_zone(source, ("x", "y", "z")[:1 + at % 3], boxed=True)
            self.assertIs(is_even(zone), True)
            shut, inside = closed(zone), values_in(zone)
            self.assertEqual(shut is None, inside == [])
            for u, v in [] if shut is None else shut[1]:
                reached = max({**values, "0": 0}[u] - {**values, "0": 0}[v] for values in inside)
                self.assertEqual(shut[1][u, v], reached)

    def test_is_even(self):
        for moduli, even in (((), True), ((0, 0), True), ((3, 3), True), ((1, 0, 1), True), ((1, 2), False),
                             ((0, 4, 2), False)):
            things = ["x", "y", "z"][:len(moduli)]
            self.assertIs(is_even((things, {}, {thing: (m, 0) for thing, m in zip(things, moduli)})), even)
        self.assertIs(is_even(None), False)
        self.assertIs(is_even(NONE_LEFT), True)

    def test_below_and_within(self):
        source = random.Random(5)
        seen = set()
        for _ in range(500):
            zone, other = random_zone(source, dense=0.4), random_zone(source, dense=0.2, moduli=(0, 1, 1, 2))
            expected = all(zone[1].get(pair, bound + 1) <= bound for pair, bound in other[1].items())
            expected = expected and all(
                m == n and r == s if n == 0 else m % n == 0 and (r - s) % n == 0
                for (m, r), (n, s) in ((zone[2][x], other[2][x]) for x in "xy"))
            self.assertIs(is_below(zone, other), expected)
            self.assertIs(is_within(zone, other), closed(zone) is None or is_below(closed(zone), other))
            seen.add((expected, is_within(zone, other)))
        self.assertEqual(len(seen), 3)
        for zone, other, below, within in ((None, None, True, True), (None, Z, True, True), (Z, None, False, False),
                                           (NONE_LEFT, None, False, True), (OVER_NONE, OVER_NONE, True, True)):
            self.assertIs(told(self, is_below, zone=zone, other=other), below)
            self.assertIs(told(self, is_within, zone=zone, other=other), within)

    def test_joined(self):
        source = random.Random(6)
        for _ in range(200):
            zone, other = random_zone(source), random_zone(source)
            both = joined(zone, other)
            for values in values_in(zone) + values_in(other):
                self.assertTrue(is_in(both, values))
            self.assertTrue(is_below(closed(zone), both) and is_below(closed(other), both))
            if closed(zone) is None:
                self.assertEqual(both, closed(other))
            elif closed(other) is not None:
                one, two = closed(zone), closed(other)
                self.assertEqual(both[1], {pair: max(one[1][pair], two[1][pair]) for pair in one[1] if pair in two[1]})
        self.assertIsNone(told(self, joined, zone=None, other=NONE_LEFT))
        self.assertEqual(told(self, joined, zone=None, other=Z), closed(Z))
        self.assertEqual(told(self, joined, zone=Z, other=None), closed(Z))
        rests = {"a": ((0, 3), (0, 3), (0, 3)), "b": ((0, 3), (0, -7), (10, 3)), "c": ((4, 1), (6, 3), (2, 1)),
                 "d": ((0, 5), (4, 1), (4, 1)), "e": ((2, 0), (2, 1), (1, 0))}
        for one, other, both in rests.values():
            self.assertEqual(joined((["x"], {}, {"x": one}), (["x"], {}, {"x": other}))[2], {"x": both})

    def test_met(self):
        source = random.Random(7)
        for _ in range(200):
            zone, other = random_zone(source, ("x", "y")), random_zone(source, ("y", "z"))
            both = met(zone, other)
            expected = [values for values in grid("xyz", 3) if lies_in(zone, {x: values[x] for x in "xy"})
                        and lies_in(other, {x: values[x] for x in "yz"})]
            self.assertEqual(values_in(both, 3), expected)
            if both is not None:
                pairs = {**zone[1], **other[1]}
                self.assertEqual(both[1], {pair: min(zone[1].get(pair, pairs[pair]), other[1].get(pair, pairs[pair]))
                                           for pair in pairs})
        self.assertEqual(told(self, met, zone=Z, other=(["x"], {}, {"x": (0, 3)})),
                         (["x", "y"], Z[1], {"x": (0, 3), "y": (4, 2)}))
        self.assertIsNone(told(self, met, zone=(["x"], {}, {"x": (2, 0)}), other=(["x"], {}, {"x": (4, 1)})))
        self.assertIsNone(told(self, met, zone=None, other=Z))
        self.assertIsNone(told(self, met, zone=Z, other=None))
        self.assertEqual(told(self, met, zone=NONE_LEFT, other=OVER_NONE), NONE_LEFT)

    def test_strip_in(self):
        source = random.Random(8)
        for _ in range(100):
            zone = random_zone(source, boxed=True)
            strip, inside = strip_in(zone, "x"), [values["x"] for values in values_in(zone)]
            for n in inside:
                self.assertTrue(strip[0] <= n <= strip[1])
            shut = closed(zone)
            if shut is not None:
                low, high = shut[1].get(("0", "x")), shut[1].get(("x", "0"))
                self.assertEqual(strip, reduced(-low, high, *shut[2]["x"]))
        self.assertIsNone(told(self, strip_in, zone=NONE_LEFT, thing="x"))
        self.assertEqual(strip_in((["x"], {}, {"x": (0, 3)}), "x"), (3, 3, 0, 3))
        for thing in any_objects():
            self.assertIsNone(strip_in(None, thing))

    def test_kept(self):
        shut = closed(Z)
        self.assertEqual(told(self, kept, zone=Z, things=["y"]), (["y"], {("y", "0"): 6}, {"y": (4, 2)}))
        self.assertEqual(told(self, kept, zone=Z, things=["y", "x"]), shut)
        self.assertEqual(told(self, kept, zone=Z, things=[]), OVER_NONE)
        self.assertIsNone(told(self, kept, zone=NONE_LEFT, things=[]))
        for things in any_objects():
            self.assertIsNone(kept(None, things))

    def test_renamed(self):
        names = {"x": "y", "y": "a"}
        self.assertEqual(told(self, renamed, zone=Z, names=names),
                         (["a", "y"], {("y", "a"): 1, ("a", "y"): -1, ("y", "0"): 9}, {"y": (1, 0), "a": (4, 2)}))
        self.assertEqual(told(self, renamed, zone=NONE_LEFT, names={"x": ""}),
                         ([""], {("", "0"): 1, ("0", ""): -2}, {"": (1, 0)}))
        self.assertEqual(told(self, renamed, zone=OVER_NONE, names={}), OVER_NONE)
        for names in any_objects():
            self.assertIsNone(renamed(None, names))

    def test_zones_refused(self):
        for thing in WRONG + [thing for thing in any_objects() if thing is not None]:
            for function in (closed, is_even):
                refused(self, BadZone, thing, function, thing)
            for function in (is_in, is_below, is_within, joined, met, strip_in, kept, renamed):
                refused(self, BadZone, thing, function, thing, 17)
            for function in (is_below, is_within, joined, met):
                refused(self, BadZone, thing, function, None, thing)
                refused(self, BadZone, thing, function, Z, thing)
        over_x = (["x"], {}, {"x": (1, 0)})
        for function in (is_below, is_within, joined):
            refused(self, BadZone, over_x, function, Z, over_x)
            refused(self, BadZone, OVER_NONE, function, NONE_LEFT, OVER_NONE)
            function(None, over_x)
            function(over_x, None)

    def test_things_and_names_refused(self):
        for zone in (Z, (["x", "y"], NONE_LEFT[1], Z[2])):
            for thing in [thing for thing in any_objects() if thing != "x"] + ["z", "0", ""]:
                refused(self, BadThing, thing, strip_in, zone, thing)
            for things in [thing for thing in any_objects() if thing not in ([], ())] + [
                    ["z"], ["x", "x"], ["0"], "xy", ["x", 1], [["x"]], {"x": 1}, ["x", None]]:
                refused(self, BadThings, things, kept, zone, things)
            for names in any_objects() + [{"x": "a"}, {"x": "a", "y": "a"}, {"x": "0", "y": "a"}, {"x": "a", "z": "b"},
                                          {"x": "a", "y": 1}, {"x": "a", "y": "b", "z": "c"}, {"x": "a", "y": ["b"]}]:
                refused(self, BadNames, names, renamed, zone, names)

    def test_what_is_told_rises(self):
        source = random.Random(9)
        for _ in range(200):
            other = random_zone(source, dense=0.4, moduli=(0, 1, 2))
            zone = met(other, random_zone(source, dense=0.2, moduli=(1, 1, 3)))
            self.assertTrue(is_below(zone, other))
            self.assertTrue(is_below(closed(zone), closed(other)))
            third = random_zone(source)
            self.assertTrue(is_below(joined(zone, third), joined(other, third)))
            self.assertTrue(is_below(met(zone, third), met(other, third)))
            self.assertTrue(is_below(kept(zone, ["x"]), kept(other, ["x"])))

    def test_great_zones(self):
        things = ["a", "b", "c", "d", "e", "f", "g", "h", "i"]
        wide = 10 ** 12
        bounds = {(u, v): wide + at for at, (u, v) in enumerate(
            (u, v) for u in ["0", *things] for v in ["0", *things] if u != v)}
        zone = (things, bounds, {thing: (999983 - at, at) for at, thing in enumerate(things)})
        self.assertTrue(is_below(closed(zone), zone))


if __name__ == "__main__":
    unittest.main()

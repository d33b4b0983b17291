"""[9.1] to [9.3]: things, sides and papers."""

import copy
import random
import unittest

from everypath.errors import BadCuts, BadName, BadProgram, BadSides, BadZone
from everypath.papers import is_paper, sided, sides_of, things_of
from everypath.programs import Program
from everypath.refusals import BadNumbers
from everypath.zones import closed
from tests.helpers import (X, add, any_objects, listed, name, num, p_program, program_of, refused, told, tupled_all)
from tests.test_zones import NONE_LEFT, OVER_NONE, WRONG, Z
from tests.zonesamples import random_zone, values_in

NOT_CUTS = [thing for thing in any_objects() if thing not in ([], ())] + [
    [("x", 1), ("x", 1)], [("x", 1), ["x", 1]], [("x",)], [("x", 1, 2)], [("x", True)], [("x", None)], [(1, 1)],
    [("x", 1), None], {("x", 1): 1}, [("x", "1")], [("x", 2), ("x", 1), ("x", 2)], ("x", 1), [(("x",), 1)]]


class ThingsTest(unittest.TestCase):
    def test_things(self):
        program = Program([("g", ["z", "b"], [("set", "a", name("z")), ("set", "b", num(1))]),
                           ("main", [], [("set", "y", num(0)), ("set", "x", name("y"))])])
        self.assertEqual(told(self, things_of, program=program, f="g"), ["a", "b", "b0", "z", "z0"])
        self.assertEqual(told(self, things_of, program=program, f="main"), ["x", "y"])
        self.assertEqual(things_of(program_of(), "main"), [])
        self.assertEqual(things_of(p_program(), "half"), ["a", "a0"])

    def test_refusals(self):
        for thing in any_objects():
            if not isinstance(thing, Program):
                refused(self, BadProgram, thing, things_of, thing, None)
                refused(self, BadProgram, thing, is_paper, thing, None)
            if thing != "main":
                refused(self, BadName, thing, things_of, p_program(), thing)


class SidesTest(unittest.TestCase):
    def test_sided(self):
        cuts = [("x", 3), ("y", -1), ("x", 5)]
        self.assertEqual(
            told(self, sided, zone=Z, cuts=cuts, sides=(0, 1, 0)),
            closed((["x", "y"], {("x", "y"): 1, ("y", "x"): -1, ("x", "0"): 2, ("0", "y"): 1}, Z[2])))
        self.assertIsNone(told(self, sided, zone=Z, cuts=cuts, sides=(0, 1, 1)))
        self.assertEqual(told(self, sided, zone=Z, cuts=[("x", 100)], sides=(0,)), closed(Z))
        self.assertEqual(told(self, sided, zone=Z, cuts=[], sides=()), closed(Z))
        self.assertEqual(told(self, sided, zone=OVER_NONE, cuts=[], sides=()), OVER_NONE)
        self.assertIsNone(told(self, sided, zone=None, cuts=[("0", 1), ("any", 2)], sides=(1, 1)))
        self.assertIsNone(told(self, sided, zone=NONE_LEFT, cuts=[("x", 1)], sides=(1,)))

    def test_sides_part_the_values(self):
        source = random.Random(1)
        for _ in range(60):
            zone = random_zone(source, dense=0.3, boxed=True)
            cuts = [("x", source.randrange(-3, 4)), ("y", source.randrange(-3, 4)), ("x", 9)]
            parts = {(a, b, c): sided(zone, cuts, (a, b, c)) for a in (0, 1) for b in (0, 1) for c in (0, 1)}
            for values in values_in(zone):
                row = sides_of(cuts, values)
                for sides, part in parts.items():
                    self.assertEqual(values in values_in(part), sides == row)

    def test_sides_of(self):
        cuts = [("x", 3), ("", -1), ("x", -5)]
        for x, other, row in ((2, -2, (0, 0, 1)), (3, -1, (1, 1, 1)), (-6, 0, (0, 1, 0)), (-5, -1, (0, 1, 1))):
            self.assertEqual(told(self, sides_of, cuts=cuts, numbers={"x": x, "": other, "more": 0}), row)
        self.assertEqual(told(self, sides_of, cuts=[], numbers={}), ())

    def test_refusals(self):
        for thing in WRONG + [thing for thing in any_objects() if thing is not None]:
            refused(self, BadZone, thing, sided, thing, None, None)
        for thing in NOT_CUTS:
            refused(self, BadCuts, thing, sided, None, thing, 17)
            refused(self, BadCuts, thing, sided, Z, thing, 17)
            refused(self, BadCuts, thing, sides_of, thing, 17)
        for cuts in ([("z", 1)], [("x", 1), ("0", 1)], [("x0", 1)]):
            refused(self, BadCuts, cuts, sided, Z, cuts, None)
        cuts = [("x", 1), ("x", 2)]
        for thing in any_objects() + [(0,), (0, 1, 0), (0, 2), (True, 0), ("0", 1), (0, None), {0: 0, 1: 1}, "01"]:
            refused(self, BadSides, thing, sided, Z, cuts, thing)
            refused(self, BadSides, thing, sided, None, cuts, thing)
        for thing in [thing for thing in any_objects() if thing != {}] + [
                {"x": True}, {"x": 1, 2: 3}, {"x": 1, ("y",): 2}, {"x": 1, "y": None}, [("x", 1)], {"y": 3}, {}]:
            refused(self, BadNumbers, thing, sides_of, cuts, thing)


def open_zone(*things):
    return (sorted(things), {}, {thing: (1, 0) for thing in things})


G = ("g", ["a"], [("set", "b", name("a")), ("return", add(name("b"), num(1)))])
MAIN = ("main", [], [("any", "x", 0, 3), ("call", "x", "g", [X]), ("return", X)])


def paper():
    cells = {"g": [{(0, 1): open_zone("a", "a0", "b"), (1, 1): open_zone("a", "a0", "b")}, {}, {(0, 0): NONE_G}, {}],
             "main": [{(): open_zone("x")}, {}, {}, {(): open_zone("x")}, {}]}
    return ({"g": [("a", 3), ("b", -1)], "main": []}, {"g": open_zone("a"), "main": None},
            {"g": open_zone("=", "a0"), "main": None}, cells)


NONE_G = (["a", "a0", "b"], {("a", "b"): 0, ("b", "a"): -1}, {"a": (1, 0), "a0": (1, 0), "b": (2, 0)})


class PapersTest(unittest.TestCase):
    def test_papers(self):
        program = Program([G, MAIN])
        for thing in (paper(), listed(paper()), tupled_all(paper())):
            self.assertIs(told(self, is_paper, program=program, thing=thing), True)
        small = Program([("main", [], [("any", "x", 0, 3), ("return", X)])])
        example = ({"main": []}, {"main": ([], {}, {})},
                   {"main": (["="], {("=", "0"): 3, ("0", "="): 0}, {"=": (1, 0)})},
                   {"main": [{(): (["x"], {("x", "0"): 0, ("0", "x"): 0}, {"x": (0, 0)})}, {},
                             {(): (["x"], {("x", "0"): 3, ("0", "x"): 0}, {"x": (1, 0)})}, {}]})
        self.assertIs(told(self, is_paper, program=small, thing=example), True)
        self.assertIs(is_paper(program, example), False)
        self.assertIs(is_paper(small, paper()), False)

    def test_other_things(self):
        program = Program([G, MAIN])
        for thing in any_objects() + [paper()[:3], [*paper(), {}], (paper()[0], [], {}, {})]:
            self.assertIs(is_paper(program, thing), False)
        for at in range(4):
            for change in (lambda part: part.pop("g"), lambda part: part.update({"h": part["g"]}),
                           lambda part: part.update({1: part["main"]}), lambda part: part.update({"g": 3}),
                           lambda part: part.update({"g": [None]}), lambda part: part.update({"main": {}})):
                self.changed(at, change)
        for cuts in ([("c", 1)], [("a0", 1), ("b", 1)], [("a", 3), ("a", 3)], [("a", True), ("b", 1)], [("a", 3)],
                     [("a", 3), ("b", 1), ("a", 4)], None):
            self.changed(0, lambda part, wrong=cuts: part.update({"g": wrong}))
        for zone in (open_zone("b"), open_zone(), open_zone("a", "a0"), WRONG[0]):
            self.changed(1, lambda part, wrong=zone: part.update({"g": wrong}))
        for zone in (open_zone("="), open_zone("a0"), open_zone("=", "a"), open_zone("=", "a", "a0")):
            self.changed(2, lambda part, wrong=zone: part.update({"g": wrong}))
        full = open_zone("a", "a0", "b")
        for key, zone in (((0,), full), ((0, 0, 0), full), ((0, 2), full), ((True, 0), full), ("00", full), (0, full),
                          ((0, "0"), full), ((1, 0), None), ((1, 0), open_zone("a", "b")), ((1, 0), WRONG[0]), (None, full)):
            self.changed(3, lambda part, row=key, wrong=zone: part["g"][0].update({row: wrong}))
            self.changed(3, lambda part, row=key, wrong=zone: part["g"][1].update({row: wrong}))
        self.changed(3, lambda part: part["g"][1].update({(0, 0): full}))
        self.changed(3, lambda part: part["g"].append({}))
        self.changed(3, lambda part: part["g"].pop())
        self.changed(3, lambda part: part["g"].__setitem__(2, None))

    def changed(self, at, change):
        thing = copy.deepcopy(paper())
        change(thing[at])
        self.assertIs(is_paper(Program([G, MAIN]), thing), False)


if __name__ == "__main__":
    unittest.main()

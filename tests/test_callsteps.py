"""[9.4]: what calls and returns make of zones."""

import random
import unittest

from everypath.callsteps import begun, called, come_back, returned
from everypath.errors import BadEnd, BadExpression, BadExpressions, BadName, BadProgram, BadZone
from everypath.papers import things_of
from everypath.programs import Program
from everypath.zones import closed, is_in, met, renamed
from everypath.zonesteps import drawn
from tests.helpers import X, add, any_objects, div, mod, name, num, refused, sub, times, told
from tests.test_forms import WRONG_EXPRESSIONS, value_of
from tests.test_zones import NONE_LEFT, OVER_NONE, WRONG
from tests.zonesamples import random_zone, values_in

A, B, C = name("a"), name("b"), name("c")
PROGRAM = Program([
    ("main", [], [("any", "x", 0, 9), ("call", "x", "f", [X, num(3)])]),
    ("f", ["a", "b"], [("set", "c", add(A, B)), ("call", "c", "g", [sub(A, C)]), ("return", C)]),
    ("g", ["d"], [("return", times(2, name("d")))])])
F_THINGS = ["a", "a0", "b", "b0", "c"]
EMPTY_F = (F_THINGS, {("a", "b"): 1, ("b", "a"): -2}, {thing: (1, 0) for thing in F_THINGS})


def own(thing):
    return name(thing)


class CallStepsTest(unittest.TestCase):
    def test_begun(self):
        source = random.Random(1)
        for _ in range(60):
            zone = random_zone(source, ("a", "b"))
            expected = drawn(zone, {"a": A, "a0": A, "b": B, "b0": B, "c": num(0)})
            self.assertEqual(told(self, begun, program=PROGRAM, f="f", zone=zone), expected)
        self.assertEqual(begun(PROGRAM, "main", OVER_NONE), drawn(OVER_NONE, {"x": num(0)}))
        self.assertIsNone(told(self, begun, program=PROGRAM, f="f", zone=None))

    def test_returned(self):
        source = random.Random(2)
        for expression in (C, sub(A, times(2, B)), mod(add(A, C), 3), num(-4)):
            zone = random_zone(source, F_THINGS, 0.3)
            expected = drawn(zone, {"a0": own("a0"), "b0": own("b0"), "=": expression})
            self.assertEqual(told(self, returned, program=PROGRAM, f="f", zone=zone, expression=expression), expected)
        self.assertEqual(returned(PROGRAM, "main", (["x"], {}, {"x": (0, 3)}), add(X, X)),
                         (["="], {("=", "0"): 6, ("0", "="): -6}, {"=": (0, 6)}))
        self.assertIsNone(told(self, returned, program=PROGRAM, f="f", zone=None, expression=A))

    def test_called(self):
        source = random.Random(3)
        for _ in range(40):
            zone = random_zone(source, F_THINGS, 0.3)
            self.assertEqual(told(self, called, program=PROGRAM, f="f", zone=zone, g="g", expressions=[sub(A, C)]),
                             drawn(zone, {"d": sub(A, C)}))
            self.assertEqual(called(PROGRAM, "f", zone, "f", (div(B, 2), A)), drawn(zone, {"a": div(B, 2), "b": A}))
        self.assertEqual(called(PROGRAM, "main", (["x"], {}, {"x": (1, 0)}), "main", []), OVER_NONE)
        self.assertIsNone(told(self, called, program=PROGRAM, f="f", zone=None, g="g", expressions=[C]))

    def test_come_back(self):
        source = random.Random(4)
        seen = set()
        for _ in range(80):
            zone, end = random_zone(source, F_THINGS, 0.25), random_zone(source, ("=", "d0"), 0.6)
            x, expression = source.choice("abc"), source.choice((sub(A, C), B, num(2), mod(A, 4)))
            through = drawn(zone, {**{thing: own(thing) for thing in F_THINGS}, "d2": expression})
            both = met(through, renamed(end, {"=": "=", "d0": "d2"}))
            expected = drawn(both, {**{thing: own(thing) for thing in F_THINGS}, x: own("=")})
            self.assertEqual(told(self, come_back, program=PROGRAM, f="f", zone=zone, x=x, g="g",
                                  expressions=[expression], end=end), expected)
            seen.add(expected is None)
        self.assertEqual(seen, {True, False})
        full = random_zone(source, F_THINGS, 0)
        for zone, end in ((None, (["=", "d0"], {}, {"=": (1, 0), "d0": (1, 0)})), (full, None), (None, None)):
            self.assertIsNone(told(self, come_back, program=PROGRAM, f="f", zone=zone, x="a", g="g", expressions=[A],
                                   end=end))

    def test_values_come_back(self):
        source = random.Random(5)
        for _ in range(40):
            zone = random_zone(source, ("x",), boxed=True)
            end = (["=", "d0"], {("=", "d0"): 3, ("d0", "="): -1}, {"=": (2, 1), "d0": (1, 0)})
            program = Program([("main", [], [("call", "x", "g", [X])]), ("g", ["d"], [])])
            behind = come_back(program, "main", zone, "x", "g", [add(X, num(1))], end)
            for values in values_in(zone):
                handed = value_of(add(X, num(1)), values)
                for result in range(handed - 6, handed + 6):
                    if is_in(end, {"=": result, "d0": handed}):
                        self.assertTrue(is_in(behind, {"x": result}))

    def test_programs_names_and_zones_refused(self):
        for thing in any_objects():
            if not isinstance(thing, Program):
                refused(self, BadProgram, thing, begun, thing, None, 17)
                refused(self, BadProgram, thing, returned, thing, None, 17, None)
                refused(self, BadProgram, thing, called, thing, None, 17, None, None)
                refused(self, BadProgram, thing, come_back, thing, None, 17, None, None, None, 17)
            if thing != "main":
                refused(self, BadName, thing, begun, PROGRAM, thing, 17)
                refused(self, BadName, thing, returned, PROGRAM, thing, 17, None)
                refused(self, BadName, thing, called, PROGRAM, thing, 17, None, None)
                refused(self, BadName, thing, come_back, PROGRAM, thing, 17, None, None, None, 17)
        for thing in WRONG + [thing for thing in any_objects() if thing is not None] + [OVER_NONE, NONE_LEFT]:
            refused(self, BadZone, thing, begun, PROGRAM, "f", thing)
            refused(self, BadZone, thing, returned, PROGRAM, "f", thing, None)
            refused(self, BadZone, thing, called, PROGRAM, "f", thing, None, None)
            refused(self, BadZone, thing, come_back, PROGRAM, "f", thing, None, None, None, 17)
        over_names = (["a", "b", "c"], {}, {thing: (1, 0) for thing in "abc"})
        refused(self, BadZone, over_names, returned, PROGRAM, "f", over_names, A)
        refused(self, BadZone, EMPTY_F, begun, PROGRAM, "f", EMPTY_F)

    def test_expressions_refused(self):
        for zone in (None, EMPTY_F):
            for thing in any_objects() + WRONG_EXPRESSIONS + [name("a0"), name("d"), add(A, name("x"))]:
                refused(self, BadExpression, thing, returned, PROGRAM, "f", zone, thing)
                if thing not in ("a", "b", "c"):
                    refused(self, BadName, thing, come_back, PROGRAM, "f", zone, thing, None, None, 17)
                if thing != "main":
                    refused(self, BadName, thing, called, PROGRAM, "f", zone, thing, None)
                    refused(self, BadName, thing, come_back, PROGRAM, "f", zone, "c", thing, None, 17)
            refused(self, BadName, "a0", come_back, PROGRAM, "f", zone, "a0", "g", [A], None)
            for thing in any_objects() + [[A, A], [], [name("a0")], [name("x")], [None], [("number", True)], A, {0: A},
                                          *[[wrong] for wrong in WRONG_EXPRESSIONS]]:
                refused(self, BadExpressions, thing, called, PROGRAM, "f", zone, "g", thing)
                refused(self, BadExpressions, thing, come_back, PROGRAM, "f", zone, "c", "g", thing, 17)
            for thing in WRONG + [thing for thing in any_objects() if thing is not None] + [
                    OVER_NONE, (["="], {}, {"=": (1, 0)}), (["=", "d"], {}, {"=": (1, 0), "d": (1, 0)})]:
                refused(self, BadEnd, thing, come_back, PROGRAM, "f", zone, "c", "g", [A], thing)

    def test_empty_zones(self):
        self.assertIsNone(closed(EMPTY_F))
        self.assertIsNone(returned(PROGRAM, "f", EMPTY_F, A))
        self.assertIsNone(called(PROGRAM, "f", EMPTY_F, "g", [A]))
        self.assertIsNone(come_back(PROGRAM, "f", EMPTY_F, "c", "g", [A], (["=", "d0"], {}, {"=": (1, 0), "d0": (1, 0)})))
        self.assertEqual(things_of(PROGRAM, "f"), F_THINGS)


if __name__ == "__main__":
    unittest.main()

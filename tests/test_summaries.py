"""[19.1] to [19.3], [19.7], and what the example [19.8] says of them: functions summed up."""

import random
import unittest

from everypath.deciding import decided
from everypath.errors import BadInputs, BadName, BadProgram, BadSides, BadSteps
from everypath.covers import paths
from everypath.paths import followed
from everypath.programs import Program
from everypath.reading import read
from everypath.refusals import BadMany, BadNumbers
from everypath.runs import played, printed
from everypath.summaries import followed_from, row_met, summary
from tests.helpers import any_objects, eq, lt, name, no, num, p_program, refused, shape, told
from tests.test_layers import NOT_MANY
from tests.test_paths import NOT_SIDES, random_program
from tests.test_runs import NOT_INPUTS, NOT_STEPS
from tests.test_forms import value_of
from tests.test_zonesteps import holds

F = read("""def f ( a ) { if a < 0 { return 0 - a ; } b = any ( 0 , 5 ) ; return b ; }
            def main ( ) { x = any ( -2 , 2 ) ; y = f ( x ) ; assert y < 5 ; }""")
LOOPS = read("""def sum(n, k) { while n > 0 { k = k + n; n = n - 1; i = any(0, 1); if i == 1 { print k; } } assume k < 7; return k; }
                def down(n) { if n <= 0 { return 0; } n = n - 1; m = down(n); assert m != 2; return m + 1; }
                def main() { x = any(0, 3); y = sum(x, 1); z = down(y - 2); print z mod 2; return z - x; }""")
C = lt(name("a"), num(0))
NOT_NUMBERS = NOT_INPUTS + [[], [1, 2], (0, 0)]


def names_in(tree):
    """The names that stand in a condition or expression."""
    if tree[0] == "name":
        return {tree[1]}
    return set().union(*[names_in(part) for part in tree[1:] if isinstance(part, (list, tuple))])


def sides_of(row):
    return [event[2] for event in row[0] if event[0] == "side"]


def rows_by_sides(program, f, steps):
    """All rows, found by going along all lists of sides."""
    rows, waiting = [], [[]]
    while waiting:
        sides = waiting.pop()
        why, taken, events = followed_from(program, f, sides, steps)
        conditions = [event[3] for event in events if event[0] == "side"]
        if any(not names_in(condition) and not holds(condition, {}) for condition in conditions):
            continue
        if why == ("sides",):
            waiting += [[*sides, 1], [*sides, 0]]
        else:
            rows.append((events, taken, why))
    return rows


def meets(row, params, numbers, inputs):
    """Whether integers for the params and inputs meet a row."""
    ranges = [event[2:] for event in row[0] if event[0] == "input"]
    if len(inputs) < len(ranges) or not all(low <= n <= high for (low, high), n in zip(ranges, inputs)):
        return False
    values = {**dict(zip(params, numbers)), **{f"u{at}": n for at, n in enumerate(inputs)}}
    return all(holds(event[3], values) for event in row[0] if event[0] == "side")


def wrapped(program, f, numbers):
    """The program that calls f with these integers."""
    others = [function for function in program.functions() if function[0] != "main"]
    return Program([*others, ("main", [], [("call", "r", f, [num(n) for n in numbers]), ("return", name("r"))])])


def random_numbers(source, program, f):
    params = [params for g, params, _ in program.functions() if g == f][0]
    return params, [source.randrange(-3, 6) for _ in params]


class SummariesTest(unittest.TestCase):
    def test_example(self):
        self.assertEqual(shape(told(self, summary, program=F, f="f", steps=20, many=9)), shape([
            ([("side", 0, 0, C)], 1, ("ends", ("times", -1, name("a")))),
            ([("side", 0, 1, no(C)), ("input", 2, 0, 5)], 3, ("ends", name("u0")))]))
        rows = told(self, summary, program=F, f="main", steps=20, many=4)
        self.assertEqual([sides_of(row) for row in rows], [[0, 0], [0, 1], [1, 0], [1, 1]])
        self.assertEqual(shape(rows[1]), shape((
            [("input", 0, -2, 2), ("side", 2, 0, lt(name("u0"), num(0))),
             ("side", 4, 1, no(lt(("times", -1, name("u0")), num(5))))], 4, ("breaks", "main", 2))))
        rows = summary(F, "main", 5, 9)
        self.assertEqual([sides_of(row) for row in rows], [[0, 0], [0, 1], [1]])
        self.assertEqual((rows[2][0][-1], rows[2][1:]), (("input", 4, 0, 5), (5, ("going",))))

    def test_followed_from(self):
        self.assertEqual(shape(told(self, followed_from, program=F, f="f", sides=[], steps=20)), shape((("sides",), 0, [])))
        self.assertEqual(shape(told(self, followed_from, program=F, f="f", sides=[1], steps=3)),
                         shape((("going",), 3, [("side", 0, 1, no(C)), ("input", 2, 0, 5)])))
        self.assertEqual(followed_from(F, "f", [], 0), (("going",), 0, []))
        found = told(self, followed_from, program=LOOPS, f="sum", sides=[0, 0, 1, 1], steps=30)
        k, n, u = name("k"), name("n"), name("u0")
        self.assertEqual(shape(found), shape((("barred", "sum", 12), 10, [
            ("side", 1, 0, lt(num(0), n)), ("input", 4, 0, 1), ("side", 5, 0, eq(u, num(1))),
            ("print", 6, ("add", k, n)), ("side", 9, 1, no(lt(num(0), ("add", num(-1), n)))),
            ("side", 10, 1, no(lt(("add", k, n), num(7))))])))

    def test_main_is_followed_as_ever(self):
        source = random.Random(1)
        for program in [F, LOOPS, p_program()] + [random_program(source) for _ in range(15)]:
            for inputs in ([], [0], [1]):
                steps = source.randrange(40)
                sides = [source.randrange(2) for _ in range(source.randrange(6))]
                try:
                    why, ranges, conditions, prints = followed(program, sides, steps)
                except BadSides:
                    refused(self, BadSides, sides, followed_from, program, "main", sides, steps)
                    continue
                again, taken, events = followed_from(program, "main", sides, steps)
                self.assertEqual(again, why)
                self.assertEqual([event[2:] for event in events if event[0] == "input"], ranges)
                self.assertEqual([event[3] for event in events if event[0] == "side"], conditions)
                self.assertEqual([event[2] for event in events if event[0] == "print"], prints)
                self.assertEqual([event[2] for event in events if event[0] == "side"], sides)
                self.assertLessEqual(taken, steps)

    def test_summary_by_all_sides(self):
        source = random.Random(2)
        for program in [F, LOOPS] + [random_program(source) for _ in range(15)]:
            for f, _, _ in program.functions():
                steps = source.randrange(14)
                expected = rows_by_sides(program, f, steps)
                self.assertEqual(shape(summary(program, f, steps, 10 ** 6)), shape(expected))
                self.assertEqual([sides_of(row) for row in expected], sorted(sides_of(row) for row in expected))
                self.assertEqual(summary(program, f, steps, len(expected)), expected)
                if len(expected) > 1:
                    self.assertIsNone(told(self, summary, program=program, f=f, steps=steps, many=len(expected) - 1))

    def test_numbers_alone_are_gone_one_way(self):
        program = read("""def main() { n = 12; while n > 0 { n = n - 1; if n mod 2 == 0 { s = s + n; } } assert s == 30;
                          assume s - s == 0; if 1 == 0 and s < 3 { s = any(0, 1); } return s; }""")
        found = told(self, summary, program=program, f="main", steps=200, many=1)
        self.assertEqual([row[2] for row in found], [("ends", num(30))])
        mixed = read("def f(a) { if a == a and 1 < 0 { return 1; } if a - a == 1 { return 2; } return 3; } def main() { }")
        self.assertEqual([(sides_of(row), row[2][1]) for row in summary(mixed, "f", 9, 9)],
                         [([0], num(1)), ([1, 1], num(3))])
        named = read("def f(a) { if a < 3 and 1 < 0 { return 1; } return 3; } def main() { }")
        self.assertEqual([sides_of(row) for row in summary(named, "f", 9, 9)], [[0], [1]])

    def test_each_call_meets_just_one_row(self):
        source = random.Random(3)
        for program in [F, LOOPS] + [random_program(source) for _ in range(12)]:
            for f, _, _ in program.functions():
                for steps in (0, 3, 11, 40):
                    rows = summary(program, f, steps, 400)
                    for _ in range(12):
                        params, numbers = random_numbers(source, program, f)
                        inputs = [source.randrange(-3, 5) for _ in range(source.randrange(7))]
                        found = row_met(program, f, numbers, inputs, steps)
                        met = [row for row in rows or [] if meets(row, params, numbers, inputs)]
                        if rows is not None:
                            self.assertEqual(met, [] if found is None else [found])
                        if f != "main":
                            self.run_as_told(wrapped(program, f, numbers), found, params, numbers, inputs, steps)

    def run_as_told(self, program, row, params, numbers, inputs, steps):
        """That the call goes, prints, and stops as the row tells; the run takes one step more ahead of it."""
        why, states = played(program, inputs, steps + 1)
        if row is None:
            self.assertEqual(why[0], "asks")
            return
        events, taken, stop = row
        values = {**dict(zip(params, numbers)), **{f"u{at}": n for at, n in enumerate(inputs)}}
        prints = [(event[1] + 1, value_of(event[2], values)) for event in events if event[0] == "print"]
        self.assertEqual(printed(program, inputs, steps + 1), prints)
        if stop[0] != "ends":
            self.assertEqual((why, len(states)), (stop, taken + 2))
        else:
            frames = played(program, inputs, taken + 2)[1][taken + 2]
            self.assertEqual([frame[0] for frame in frames], ["main"])
            self.assertEqual(frames[0][2]["r"], value_of(stop[1], values))

    def test_paths_are_the_rows_of_main_that_are_met(self):
        source = random.Random(4)
        for program in [F, LOOPS, p_program()] + [random_program(source) for _ in range(10)]:
            steps = source.choice((5, 9, 20))
            rows = summary(program, "main", steps, 300)
            if rows is None:
                continue
            expected = []
            for row in rows:
                ranges = [event[2:] for event in row[0] if event[0] == "input"]
                word, inputs = decided(ranges, [event[3] for event in row[0] if event[0] == "side"])
                if word == "met":
                    values = {f"u{at}": n for at, n in enumerate(inputs)}
                    why = ("ends", value_of(row[2][1], values)) if row[2][0] == "ends" else row[2]
                    expected.append((sides_of(row), why, inputs))
            self.assertEqual(paths(program, steps, 300), expected)

    def test_row_met(self):
        self.assertEqual(shape(told(self, row_met, program=F, f="f", numbers=[-3], inputs=[], steps=20)),
                         shape(summary(F, "f", 20, 9)[0]))
        self.assertEqual(shape(told(self, row_met, program=F, f="f", numbers=(3,), inputs=(5, 99), steps=20)),
                         shape(summary(F, "f", 20, 9)[1]))
        for inputs in ([], [6], [-1, 3]):
            self.assertIsNone(row_met(F, "f", [3], inputs, 20))
            self.assertEqual(row_met(F, "f", [3], inputs, 2), ([("side", 0, 1, no(C))], 2, ("going",)))
        self.assertEqual(row_met(F, "f", [10 ** 40], [0], 0), ([], 0, ("going",)))
        self.assertEqual(row_met(LOOPS, "down", [5], [], 60)[2], ("breaks", "down", 7))

    def test_refusals(self):
        for thing in any_objects():
            if not isinstance(thing, Program):
                refused(self, BadProgram, thing, followed_from, thing, None, None, None)
                refused(self, BadProgram, thing, summary, thing, None, None, None)
                refused(self, BadProgram, thing, row_met, thing, None, None, None, None)
            if thing != "main":
                refused(self, BadName, thing, followed_from, F, thing, None, None)
                refused(self, BadName, thing, summary, F, thing, None, None)
                refused(self, BadName, thing, row_met, F, thing, None, None, None)
        for thing in NOT_SIDES:
            refused(self, BadSides, thing, followed_from, F, "f", thing, None)
        for thing in NOT_STEPS:
            refused(self, BadSteps, thing, followed_from, F, "f", [0, 0, 0, 0], thing)
            refused(self, BadSteps, thing, summary, F, "f", thing, None)
            refused(self, BadSteps, thing, row_met, F, "f", [1], [], thing)
        for sides, steps in (([0, 0], 20), ([1, 0], 20), ([0], 0), ([1, 1], 2), ((0, 1, 0), 1)):
            refused(self, BadSides, sides, followed_from, F, "f", sides, steps)
        for thing in NOT_MANY:
            refused(self, BadMany, thing, summary, F, "f", 3, thing)
        for thing in NOT_NUMBERS:
            refused(self, BadNumbers, thing, row_met, F, "f", thing, None, None)
        for thing in NOT_INPUTS:
            refused(self, BadInputs, thing, row_met, F, "f", [3], thing, None)
        refused(self, BadNumbers, (wrong := [0]), row_met, F, "main", wrong, None, None)


if __name__ == "__main__":
    unittest.main()

"""[19.4] to [19.7], and the example [19.8] whole: summaries put together, rows tried."""

import itertools
import random
import unittest

from everypath.deciding import decided, is_refutation
from everypath.errors import BadExpressions, BadName, BadProgram, BadSteps
from everypath.plainforms import plain
from everypath.programs import Program
from everypath.puttogether import cut_row, put_row, together, tried
from everypath.reading import read
from everypath.refusals import BadMany, BadNumber, BadRanges, BadRow, BadSummaries
from everypath.summaries import row_met, summary
from tests.helpers import X, add, any_objects, div, eq, le, listed, lt, mod, name, no, num, p_program, refused, shape, sub, times, told
from tests.test_layers import NOT_MANY
from tests.test_leastpapers import RECURS
from tests.test_paths import random_program
from tests.test_runs import NOT_STEPS
from tests.test_sharper import NOT_ROUNDS
from tests.test_summaries import C, F, LOOPS, meets, sides_of

A, U0, U1, U5 = name("a"), name("u0"), name("u1"), name("u5")
ROW = ([("input", 0, -2, 2), ("side", 2, 0, lt(add(U0, A), num(0))), ("print", 3, sub(name("b"), U0)),
        ("side", 4, 1, no(("or", eq(div(U0, 2), A), le(U5, A)))), ("input", 6, 1, 1), ("print", 6, U1)], 7, ("ends", add(U1, A)))
GONE = ([], 0, ("going",))
NOT_ROWS = [
    ROW[:2], (*ROW, 1), (ROW[0], -1, ROW[2]), (ROW[0], True, ROW[2]), (ROW[0], None, ROW[2]), (None, 1, ROW[2]), ({}, 1, ROW[2]),
    (ROW[0], 1, ("sides",)), (ROW[0], 1, ("ends",)), (ROW[0], 1, ("ends", C)), (ROW[0], 1, ("ends", 3)), (ROW[0], 1, ("asks", "f", 1)),
    (ROW[0], 1, ("going", 1)), (ROW[0], 1, "going"), (ROW[0], 1, ("breaks", "f")), (ROW[0], 1, ("breaks", 1, 1)), (ROW[0], 1, ("breaks", "f", -1)),
    (ROW[0], 1, ("barred", "f", True)), (ROW[0], 1, ("broken", "f", 1)), ([("input", 0, 1)], 1, ("going",)), ([("input", -1, 1, 1)], 1, ("going",)),
    ([("input", 0, 1, None)], 1, ("going",)), ([("input", 0, True, 1)], 1, ("going",)), ([("side", 0, 2, C)], 1, ("going",)),
    ([("side", 0, True, C)], 1, ("going",)), ([("side", 0, 1, A)], 1, ("going",)), ([("side", 0, C)], 1, ("going",)), ([("print", 0, C)], 1, ("going",)),
    ([("print", 0, A, A)], 1, ("going",)), ([("print", None, A)], 1, ("going",)), ([("asks", 0, 1, 1)], 1, ("going",)), ([C], 1, ("going",)),
    ([[]], 1, ("going",)), ([("side", 0, 1, ("lt", ("name", 3), A))], 1, ("going",)), ([("print", 0, ("name", "a", 1))], 1, ("going",))]


def summaries_of(program, f, steps, many=2000):
    called = {g: summary(program, g, steps, many) for g, _, _ in program.functions()}
    return None if None in called.values() else called


class PutTogetherTest(unittest.TestCase):
    def test_example(self):
        called = {"f": summary(F, "f", 20, 9)}
        self.assertEqual(shape(told(self, together, program=F, f="main", summaries=called, steps=20, many=9)),
                         shape(summary(F, "main", 20, 9)))
        found = told(self, tried, program=F, f="main", ranges=[], steps=20, many=9)
        self.assertEqual([row for row, _ in found], summary(F, "main", 20, 9))
        self.assertEqual([word for _, (word, _) in found], ["met", "never", "met", "met"])
        self.assertEqual([inputs for _, (word, inputs) in found if word == "met"], [[-2], [0, 0], [0, 5]])
        self.assertTrue(is_refutation([(-2, 2)], [event[3] for event in found[1][0][0] if event[0] == "side"], found[1][1][1]))

    def test_put_row(self):
        found = told(self, put_row, row=ROW, expressions={"a": sub(U1, name("b")), "u0": num(99), "zz": num(1)}, first=3, ahead=10)
        u3, u4 = name("u3"), name("u4")
        a = sub(U1, name("b"))
        self.assertEqual(shape(found), shape((
            [("input", 10, -2, 2), ("side", 12, 0, lt(plain(add(u3, a)), num(0))), ("print", 13, plain(sub(name("b"), u3))),
             ("side", 14, 1, no(("or", eq(div(u3, 2), plain(a)), le(U5, plain(a))))), ("input", 16, 1, 1), ("print", 16, u4)],
            17, ("ends", plain(add(u4, a))))))
        self.assertEqual(shape(put_row(listed(ROW), {}, 0, 0)), shape((
            [("input", 0, -2, 2), ("side", 2, 0, lt(add(A, U0), num(0))), ("print", 3, plain(sub(name("b"), U0))),
             ROW[0][3], ("input", 6, 1, 1), ("print", 6, U1)], 7, ("ends", add(A, U1)))))
        self.assertEqual(put_row(([("print", 1, add(U0, U1)), ("input", 1, 0, 3)], 2, ("going",)), {"u1": U0}, 1, 0),
                         ([("print", 1, plain(add(U1, U0))), ("input", 1, 0, 3)], 2, ("going",)))
        self.assertEqual(put_row(([("print", 0, U0)], 2, ("breaks", "f", 3)), {"u0": U1, "u1": U5}, 7, 2),
                         ([("print", 2, U1)], 4, ("breaks", "f", 3)))
        self.assertEqual(shape(told(self, put_row, row=GONE, expressions={}, first=0, ahead=5)), shape(([], 5, ("going",))))
        swapped = put_row(([], 1, ("ends", sub(X, times(2, name("y"))))), {"x": name("y"), "y": X}, 10 ** 9, 10 ** 9)
        self.assertEqual(swapped, ([], 10 ** 9 + 1, ("ends", plain(sub(name("y"), times(2, X))))))
        self.assertEqual(put_row(([("side", 3, 1, lt(mod(num(7), 4), X))], 9, ("barred", "g", 0)), {"x": num(5)}, 0, 0),
                         ([("side", 3, 1, lt(num(3), num(5)))], 9, ("barred", "g", 0)))

    def test_cut_row(self):
        for steps in range(12):
            found = told(self, cut_row, row=ROW, steps=steps)
            expected = ROW if steps > 7 else ([event for event in ROW[0] if event[1] < steps], steps, ("going",))
            self.assertEqual(shape(found), shape(expected))
        self.assertEqual(cut_row(GONE, 0), GONE)
        self.assertEqual(cut_row(GONE, 1), GONE)
        self.assertEqual(cut_row(([("print", 9, A)], 3, ("ends", A)), 8), ([("print", 9, A)], 3, ("ends", A)))
        self.assertEqual(cut_row(([("print", 9, A), ("print", 1, A)], 3, ("ends", A)), 2), ([("print", 1, A)], 2, ("going",)))
        self.assertEqual(cut_row(ROW, 10 ** 40), ROW)

    def test_cut_summaries_are_those_of_fewer_steps(self):
        for program in (F, LOOPS, RECURS):
            for f, _, _ in program.functions():
                whole = summary(program, f, 14, 900)
                for steps in range(15):
                    cut = [cut_row(row, steps) for row in whole]
                    self.assertEqual([row for at, row in enumerate(cut) if row not in cut[:at]], summary(program, f, steps, 900))

    def test_together_is_the_summary_of_the_whole(self):
        source = random.Random(1)
        gone = 0
        for program in [F, LOOPS, RECURS, p_program()] + [random_program(source) for _ in range(20)]:
            for f, _, _ in program.functions():
                for steps in (0, 1, 2, 5, 9, 16):
                    called = summaries_of(program, f, steps + source.randrange(3), 400)
                    if called is None:
                        continue
                    expected = summary(program, f, steps, 400)
                    found = together(program, f, called, steps, 400)
                    gone += 1
                    self.assertEqual(shape(found), shape(expected))
                    if expected is not None and len(expected) > 1:
                        self.assertIsNone(together(program, f, called, steps, len(expected) - 1))
                        self.assertEqual(together(program, f, listed(called), steps, len(expected)), expected)
        self.assertGreater(gone, 150)

    def test_a_function_in_the_place_of_another(self):
        one = read("def f(a) { if a < 0 { return 0 - a; } print a; return a * 1; } def main() { x = any(-3, 3); y = f(x - 1); assert y < 4; }"
                   .replace("a * 1", "2 * a - a"))
        two = read("def f(a) { if 0 > a { return -1 * a; } print 1 + a - 1; return a; } def main() { x = any(-3, 3); y = f(x - 1); assert y < 4; }")
        self.assertEqual(summary(one, "f", 30, 9), summary(two, "f", 30, 9))
        self.assertEqual(summary(one, "main", 30, 9), summary(two, "main", 30, 9))
        self.assertEqual(together(one, "main", {"f": summary(two, "f", 30, 9)}, 30, 9), summary(two, "main", 30, 9))

    def test_rows_by_hand(self):
        program = read("def f(a) { return a; } def main() { x = any(0, 9); y = f(x + 1); z = any(1, 2); print y - z; return y; }")
        c, d = lt(A, num(3)), lt(num(3), A)
        rows = [([("side", 0, 1, no(c)), ("input", 1, 4, 5)], 3, ("ends", add(A, U0))), ([("side", 0, 0, c)], 1, ("ends", num(7))),
                ([("side", 0, 1, d)], 2, ("breaks", "h", 40)), ([("side", 0, 1, no(c)), ("input", 1, 4, 5)], 3, ("ends", add(U0, A))),
                ([("side", 0, 0, lt(num(1), num(0)))], 2, ("ends", A)), ([("side", 0, 1, no(c)), ("input", 2, 4, 5)], 3, ("ends", A))]
        found = told(self, together, program=program, f="main", summaries={"f": rows, "main": 3}, steps=30, many=9)
        self.assertEqual([sides_of(row) for row in found], [[0], [1], [1], [1]])
        u1 = add(num(1), U0)
        self.assertEqual(shape(found[0]), shape(([("input", 0, 0, 9), ("side", 2, 0, lt(u1, num(3))), ("input", 4, 1, 2),
                                                  ("print", 5, plain(sub(num(7), U1)))], 6, ("ends", num(7)))))
        self.assertEqual(shape(found[1]), shape(([
            ("input", 0, 0, 9), ("side", 2, 1, no(lt(u1, num(3)))), ("input", 3, 4, 5), ("input", 6, 1, 2),
            ("print", 7, plain(sub(add(u1, U1), name("u2"))))], 8, ("ends", plain(add(u1, U1))))))
        self.assertEqual(found[2], ([("input", 0, 0, 9), ("side", 2, 1, lt(num(3), u1))], 4, ("breaks", "h", 40)))
        self.assertEqual([event[1] for event in found[3][0]], [0, 2, 4, 6, 7])
        self.assertEqual(told(self, together, program=program, f="main", summaries={"f": []}, steps=30, many=9), [])
        self.assertEqual(together(program, "main", {"f": []}, 1, 9), [([("input", 0, 0, 9)], 1, ("going",))])
        self.assertEqual(together(program, "main", {"f": rows}, 2, 9), [([("input", 0, 0, 9)], 2, ("going",))])
        going = together(program, "main", {"f": rows}, 4, 9)
        self.assertEqual([(sides_of(row), row[1:]) for row in going], [(sides, (4, ("going",))) for sides in ([0], [1], [1], [1])])
        self.assertEqual([len(row[0]) for row in going], [2, 3, 2, 2])
        self.assertIsNone(together(program, "main", {"f": rows}, 30, 3))
        self.assertEqual(together(program, "f", {}, 3, 1), [([], 0, ("ends", A))])

    def test_of_equal_rows_the_first_one_stands(self):
        program = read("def f() { return 1; } def main() { y = f(); return y; }")
        c, d = lt(A, num(3)), le(A, num(3))
        one = ([("side", 0, 1, c), ("print", 1, A), ("side", 2, 0, c)], 3, ("ends", num(1)))
        others = [([("side", 0, 1, d), *one[0][1:]], 3, one[2]), ([one[0][0], ("print", 1, U0), one[0][2]], 3, one[2]),
                  ([*one[0][:2], ("side", 2, 0, d)], 3, one[2]), (one[0], 4, one[2]), (one[0], 3, ("ends", num(2))),
                  ([*one[0], ("print", 2, A)], 3, one[2]), (one[0], 3, ("breaks", "f", 1)), (one[0], 3, ("breaks", "f", 2)),
                  (one[0], 3, ("breaks", "g", 1)), (one[0], 3, ("barred", "f", 1))]
        rows = [one, *others, one, *others[::-1]]
        found = together(program, "main", {"f": rows}, 40, 40)
        self.assertEqual(found, [together(program, "main", {"f": [row]}, 40, 40)[0] for row in [one, *others]])

    def test_no_steps(self):
        for program in (F, LOOPS):
            for f, _, _ in program.functions():
                called = {g: [GONE] for g, _, _ in program.functions()}
                self.assertEqual(told(self, together, program=program, f=f, summaries=called, steps=0, many=1), [GONE])
                self.assertEqual(summary(program, f, 0, 1), [GONE])

    def test_tried(self):
        source = random.Random(2)
        words = []
        for program in [F, LOOPS, RECURS] + [random_program(source) for _ in range(10)]:
            for f, params, _ in program.functions():
                steps = source.choice((4, 9, 14))
                rows = summary(program, f, steps, 60)
                ranges = [(low, low + source.randrange(3)) for low in [source.randrange(-2, 3) for _ in params]]
                found = tried(program, f, ranges, steps, 60)
                if rows is None:
                    self.assertIsNone(found)
                    continue
                moved = {x: name(f"u{at}") for at, x in enumerate(params)}
                self.assertEqual([row for row, _ in found], [put_row(row, moved, len(params), 0) for row in rows])
                for row, (put, answer) in zip(rows, found):
                    inputs = [tuple(event[2:]) for event in row[0] if event[0] == "input"]
                    conditions = [event[3] for event in put[0] if event[0] == "side"]
                    self.assertEqual(answer, decided([*ranges, *inputs], conditions))
                    words.append(answer[0])
                    self.check_answer(row, params, [*ranges, *inputs], conditions, answer)
                    if answer[0] == "met":
                        self.assertEqual(row_met(program, f, answer[1][:len(params)], answer[1][len(params):], steps), row)
        self.assertGreater(words.count("never"), 10)
        self.assertIsNone(told(self, tried, program=F, f="main", ranges=[], steps=20, many=3))

    def check_answer(self, row, params, ranges, conditions, answer):
        if sum(high - low for low, high in ranges) > 14:
            return
        first = None
        for numbers in itertools.product(*[range(low, high + 1) for low, high in ranges]):
            if meets(row, params, numbers[:len(params)], numbers[len(params):]):
                first = list(numbers)
                break
        if first is None:
            self.assertEqual(answer[0], "never")
            self.assertTrue(is_refutation(ranges, conditions, answer[1]))
        else:
            self.assertEqual(answer, ("met", first))

    def test_refusals(self):
        for thing in any_objects():
            if not isinstance(thing, Program):
                refused(self, BadProgram, thing, together, thing, None, None, None, None)
                refused(self, BadProgram, thing, tried, thing, None, None, None, None)
            if thing != "main":
                refused(self, BadName, thing, together, F, thing, None, None, None)
                refused(self, BadName, thing, tried, F, thing, None, None, None)
            refused(self, BadRow, thing, put_row, thing, None, None, None)
            refused(self, BadRow, thing, cut_row, thing, None)
            refused(self, BadSummaries, thing, together, F, "main", thing, None, None)
            if thing != {}:
                refused(self, BadExpressions, thing, put_row, ROW, thing, None, None)
            if thing not in ([], ()):
                wrong = {"f": thing}
                refused(self, BadSummaries, wrong, together, F, "main", wrong, None, None)
                refused(self, BadRanges, thing, tried, F, "main", thing, None, None)
                wrong = {"f": [GONE, thing]}
                refused(self, BadSummaries, wrong, together, F, "main", wrong, None, None)
            if thing not in [("number",)]:
                wrong = {"a": thing}
                refused(self, BadExpressions, wrong, put_row, ROW, wrong, None, None)
        for thing in NOT_ROWS:
            refused(self, BadRow, thing, put_row, thing, None, None, None)
            refused(self, BadRow, thing, cut_row, thing, None)
            wrong = {"f": [thing]}
            refused(self, BadSummaries, wrong, together, F, "main", wrong, None, None)
        for thing in NOT_ROUNDS:
            refused(self, BadNumber, thing, put_row, ROW, {}, thing, None)
            refused(self, BadNumber, thing, put_row, ROW, {}, 0, thing)
        for thing in NOT_STEPS:
            refused(self, BadSteps, thing, cut_row, ROW, thing)
            refused(self, BadSteps, thing, together, F, "f", {}, thing, None)
            refused(self, BadSteps, thing, tried, F, "main", [], thing, None)
        for thing in NOT_MANY:
            refused(self, BadMany, thing, together, F, "f", {}, 3, thing)
            refused(self, BadMany, thing, tried, F, "main", [], 3, thing)
        for thing in ([], [(0, 1), (0, 1)], [(1, 0)], [(0, True)], [(0,)], [0, 1], [None], None, {"a": (0, 1)}):
            refused(self, BadRanges, thing, tried, F, "f", thing, None, None)
        for thing in ({3: A}, {"a": C}, {"a": ("name", 1)}, {"a": A, None: A}):
            refused(self, BadExpressions, thing, put_row, ROW, thing, None, None)
        refused(self, BadSummaries, (wrong := {"g": []}), together, F, "main", wrong, None, None)


if __name__ == "__main__":
    unittest.main()

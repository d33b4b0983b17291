"""[17.6] to [17.8]: depths, and how many steps no run passes."""

import copy
import unittest

from everypath.endings import judged_depths, longest
from everypath.errors import BadPaper, BadProgram
from everypath.graphs import edges
from everypath.judge import judged
from everypath.loops import heads
from everypath.programs import Program
from everypath.rankjudge import found_ranking, ranking
from everypath.refusals import BadDepths, BadRankings, NotDeep, NotTaken
from everypath.runs import played
from tests.helpers import X, add, any_objects, name, num, refused, shape, sub, told
from tests.samples import all_runs, empty, taken_paper
from tests.test_loops import COUNT, LADDER, NEVER
from tests.texts import main_of, program_in

SUM = program_in("""def sum(n) { if n <= 0 { return 0; } r = sum(n - 1); return r + n; }
    def main() { n = any(0, 3); s = sum(n); m = twice(s); return m; }
    def twice(k) { return k + k; }""")
EVEN = program_in("""def even(n) { if n == 0 { return 1; } r = odd(n - 1); return r; }
    def odd(k) { if k <= 0 { return 0; } if k > 100 { s = 5; } else { s = even(k - 1); } return s; }
    def main() { n = any(0, 3); e = even(n); while e > 0 { e = e - 1; x = odd(2); } print x; return e; }""")
DEPTHS = {"even": name("n"), "odd": name("k"), "main": num(0)}
PAPERS = {}


def paper_of(program):
    if id(program) not in PAPERS:
        PAPERS[id(program)] = taken_paper(program, LADDER, {})
    return copy.deepcopy(PAPERS[id(program)])


def rankings_of(program, paper):
    return {(f, head): found_ranking(program, paper, f, head, LADDER)
            for f, _, _ in program.functions() for head in heads(program, f)}


class EndingsTest(unittest.TestCase):
    def test_example(self):
        paper = taken_paper(COUNT, [-1, 0, 9], {})
        made = found_ranking(COUNT, paper, "main", 3, [-1, 0, 9])
        self.assertEqual(told(self, longest, program=COUNT, paper=paper, rankings={("main", 3): made},
                              depths={"main": num(0)}), 32)

    def test_costs(self):
        for text, many in (("", 1), ("x = 1;", 2), ("x = any(0, 3); print x; assert x < 9; assume x < 3; return x;", 6),
                           ("if 0 < 1 { } else { }", 3), ("if 0 < 1 { print 1; } else { print 1; print 2; }", 5),
                           ("if 0 < 1 { if 0 < 1 { print 1; } print 3; print 4; } print 5;", 9),
                           ("while 1 < 0 { print 1; }", 3), ("while 1 < 0 { while 3 < 0 { print 2; } } print 3;", 4),
                           ("n = 3; while n > 0 { n = n - 1; }", 1 + 1 + 2 + 3 * 3),
                           ("n = 3; while n > 0 { n = n - 1; m = 2; while m > 0 { m = m - 1; } }",
                            1 + 1 + 2 + 3 * (2 + 1 + 1 + 2 + 2 * 3)),
                           ("while 1 < 0 { n = 1; } n = 2; while n > 0 { n = n - 1; }", 1 + 2 + 1 + 2 + 2 * 3)):
            program = main_of(text)
            paper = taken_paper(program, [-1, 0, 1, 2, 3], {})
            rankings = {("main", head): found_ranking(program, paper, "main", head, [-1, 0, 1, 2, 3])
                        for head in heads(program, "main")}
            for key, made in rankings.items():
                if made is None:
                    rankings[key] = ranking(program, paper, "main", key[1], [num(0)], [0])
            found = told(self, longest, program=program, paper=paper, rankings=rankings, depths={"main": num(7)})
            self.assertEqual((text, found), (text, many))
            for inputs, _, _ in all_runs(program, 300, 99):
                self.assertLessEqual(len(played(program, inputs, 300)[1]), many)

    def test_calls(self):
        program = program_in("""def a(x) { print x; return x; } def b(x) { y = a(x); y = a(y); return y; }
                                def main() { x = b(1); x = a(x); if x < 0 { x = b(2); } }""")
        paper = taken_paper(program, [0, 1], {})
        depths = {"a": num(-5), "b": sub(num(0), X), "main": num(0)}
        cost_a, cost_b = 3, 1 + 4 + 4 + 1
        self.assertEqual(told(self, longest, program=program, paper=paper, rankings={}, depths=depths),
                         1 + 1 + cost_b + 1 + cost_a + 2 + 1 + cost_b)

    def test_recursion(self):
        paper, depths = paper_of(SUM), {"sum": name("n"), "main": num(0), "twice": num(0)}
        self.assertIsNone(told(self, judged_depths, program=SUM, paper=paper, depths=depths))
        cost = 1 + 3 + 0 + 1
        for _ in range(4):
            cost = 1 + 3 + 1 + cost + 1
        found = told(self, longest, program=SUM, paper=paper, rankings={}, depths=depths)
        self.assertEqual(found, 1 + 1 + 1 + cost + 1 + 2 + 1)
        for inputs, _, why in all_runs(SUM, 300, 99):
            self.assertEqual(why[0], "ends")
            self.assertLessEqual(len(played(SUM, inputs, 300)[1]), found)
        for wrong, where in ((num(3), "sum"), (add(name("n"), num(-2)), "sum"), (sub(num(0), name("n")), "sum")):
            why = told(self, judged_depths, program=SUM, paper=paper, depths={**depths, "sum": wrong})
            call = [number for number, edge in enumerate(edges(SUM, "sum")) if edge[2][0] == "call"][0]
            self.assertEqual(shape(why), shape(("deep", where, call, ())))
            with self.assertRaises(NotDeep) as caught:
                longest(SUM, paper, {}, {**depths, "sum": wrong})
            self.assertEqual(caught.exception.why, why)
        self.assertIsNone(judged_depths(SUM, paper, {**depths, "twice": sub(num(0), name("k")), "main": num(-9)}))

    def test_depth_of_what_the_frame_began_with(self):
        text = """def f(n) { m = n; n = 50; if m > 0 { r = f(m - 1); } return n; }
                  def main() { n = any(0, 3); x = f(n); return x; }"""
        program = program_in(text)
        paper = taken_paper(program, LADDER, {})
        self.assertIsNone(judged_depths(program, paper, {"f": name("n"), "main": num(0)}))
        self.assertIsNotNone(longest(program, paper, {}, {"f": name("n"), "main": num(0)}))

    def test_two_that_turn(self):
        paper = paper_of(EVEN)
        rankings = rankings_of(EVEN, paper)
        self.assertIsNone(told(self, judged_depths, program=EVEN, paper=paper, depths=DEPTHS))
        found = told(self, longest, program=EVEN, paper=paper, rankings=rankings, depths=DEPTHS)
        even, odd = 1 + 3 + 0 + 1, 1 + 3 + 2 + 1 + 1
        for _ in range(4):
            even, odd = 1 + 3 + 1 + odd + 1, 1 + 3 + 2 + max(1, 1 + even) + 1
        self.assertEqual(found, 1 + 1 + 1 + even + 2 + 1 * (2 + 1 + 1 + odd) + 1 + 1)
        for inputs, _, why in all_runs(EVEN, 300, 99):
            self.assertEqual(why[0], "ends")
            self.assertLessEqual(len(played(EVEN, inputs, 300)[1]), found)
        why = judged_depths(EVEN, paper, {**DEPTHS, "odd": add(name("k"), num(1))})
        self.assertEqual(why[:2], ("deep", "even"))
        self.assertEqual(judged_depths(EVEN, paper, {**DEPTHS, "even": num(0), "odd": num(0)})[1], "even")
        parted = taken_paper(EVEN, LADDER, {"even": [("n", 2)], "odd": [("k", 1)]})
        self.assertIsNone(judged_depths(EVEN, parted, DEPTHS))
        self.assertEqual(judged_depths(EVEN, parted, {**DEPTHS, "even": num(1)})[:2], ("deep", "even"))
        self.assertEqual(judged_depths(EVEN, parted, {**DEPTHS, "even": num(1)})[3], (1,))
        why = judged_depths(EVEN, paper, {**DEPTHS, "even": add(name("n"), num(1))})
        self.assertEqual(why[:2], ("deep", "odd"))

    def test_main_that_turns(self):
        program = program_in("def main() { x = any(0, 1); if x > 0 { y = main(); } return x; }")
        paper = taken_paper(program, [0, 1], {})
        for depth in (num(0), num(5), num(-1)):
            self.assertEqual(judged_depths(program, paper, {"main": depth})[:2], ("deep", "main"))
        program = program_in("def main() { x = 0; if x > 0 { y = main(); } return x; }")
        paper = taken_paper(program, [0, 1], {})
        self.assertIsNone(judged_depths(program, paper, {"main": num(2)}))
        inner = 1 + 1 + 2 + 0 + 1
        for bound, many in ((-3, inner), (-1, inner), (0, inner + 1 + inner), (1, inner + 2 * (1 + inner))):
            self.assertEqual(longest(program, paper, {}, {"main": num(bound)}), many)
        self.assertEqual(longest(program, paper, {}, {"main": num(60)}), inner + 61 * (1 + inner))
        self.assertIsNone(longest(program, paper, {}, {"main": num(61)}))

    def test_nobody_calls(self):
        program = program_in("""def f(n) { x = f(n - 1); return x; } def g(n) { x = f(n); return x; }
                                def main() { x = 0; if x > 5 { x = g(3); x = f(2); } return x; }""")
        paper = taken_paper(program, [0], {})
        self.assertIsNone(paper[1]["f"])
        inner = 1 + 0 + 1
        depths = {"f": name("n"), "g": num(0), "main": num(0)}
        self.assertEqual(longest(program, paper, {}, depths), 1 + 1 + 2 + (1 + (1 + 1 + inner + 1)) + (1 + inner) + 1)
        closes = copy.deepcopy(paper)
        closes[1]["f"] = (["n"], {("n", "0"): -1, ("0", "n"): 0}, {"n": (1, 0)})
        self.assertIsNone(judged(program, closes))
        self.assertEqual(longest(program, closes, {}, depths), longest(program, paper, {}, depths))

    def test_none(self):
        program = program_in("""def f(n) { if n > 0 { x = f(n - 1); } return n; }
                                def main() { m = any(0, 9); k = 0; if m > 3 { x = f(m); } return x; }""")
        wide = taken_paper(program, [], {})
        depths = {"f": name("n"), "main": num(0)}
        self.assertIsNone(judged_depths(program, taken_paper(program, [-1, 0], {}), depths))
        self.assertIsNone(longest(program, taken_paper(program, [-1, 0], {}), {}, depths))
        self.assertEqual(judged_depths(program, wide, {**depths, "f": num(0)})[0], "deep")
        self.assertIsNotNone(longest(program, taken_paper(program, [-1, 0, 9], {}), {}, depths))
        program = main_of("n = any(0, 9); while n > 0 { n = n - 1; } return n;")
        paper = taken_paper(program, [-1, 0], {})
        made = found_ranking(program, paper, "main", 3, [-1, 0])
        self.assertIsNone(longest(program, paper, {("main", 3): made}, {"main": num(0)}))
        program = main_of("n = any(0, 9); if n > 99 { while n > 0 { n = n - 1; } } while n < 0 { while n > 3 { n = n - 1; } }")
        paper = taken_paper(program, [-1, 0], {})
        rankings = rankings_of(program, paper)
        rankings = {key: made or ranking(program, paper, "main", key[1], [num(0)], [0]) for key, made in rankings.items()}
        first, _, third = heads(program, "main")
        self.assertIsNone(longest(program, paper, rankings, {"main": num(0)}))
        tight = taken_paper(program, [-1, 0, 9], {})
        rankings = {("main", head): ranking(program, tight, "main", head, [num(0)], [0]) for head in heads(program, "main")}
        self.assertEqual(longest(program, tight, rankings, {"main": num(0)}), 1 + 1 + (2 + 2) + 2)
        self.assertLess(first, third)

    def test_refusals(self):
        paper, rankings = paper_of(EVEN), rankings_of(EVEN, paper_of(EVEN))
        wrong = copy.deepcopy(paper)
        wrong[2]["odd"] = None
        for thing in any_objects():
            if not isinstance(thing, Program):
                refused(self, BadProgram, thing, judged_depths, thing, None, None)
                refused(self, BadProgram, thing, longest, thing, None, None, None)
            refused(self, BadPaper, thing, judged_depths, EVEN, thing, None)
            refused(self, BadPaper, thing, longest, EVEN, thing, None, None)
            refused(self, BadDepths, thing, judged_depths, EVEN, paper, thing)
            refused(self, BadRankings, thing, longest, EVEN, paper, thing, None)
            refused(self, BadDepths, thing, longest, EVEN, paper, rankings, thing)
        for thing in (wrong, empty(EVEN, {})):
            for function, others in ((judged_depths, (None,)), (longest, (None, None))):
                with self.assertRaises(NotTaken) as caught:
                    function(EVEN, thing, *others)
                self.assertEqual(caught.exception.why, judged(EVEN, thing))
        for thing in ({"even": name("n"), "odd": name("k")}, {**DEPTHS, "more": num(0)}, {**DEPTHS, "odd": name("n")},
                      {**DEPTHS, "odd": None}, {**DEPTHS, "odd": name("k0")}, {**DEPTHS, "main": name("e")}):
            refused(self, BadDepths, thing, judged_depths, EVEN, paper, thing)
            refused(self, BadDepths, thing, longest, EVEN, paper, rankings, thing)
        key = ("main", heads(EVEN, "main")[0])
        right = rankings[key]
        not_low = ranking(EVEN, paper, "main", key[1], [sub(name("e"), num(2))], LADDER)
        for thing in ({}, {key: None}, {key: not_low}, {**rankings, ("main", 0): right}, {("odd", key[1]): right},
                      {key[1]: right}, {("main", key[1], 0): right}, {("main", str(key[1])): right},
                      {key: right, "main": right}, [right], {key: (right[0], right[1][:1])}):
            refused(self, BadRankings, thing, longest, EVEN, paper, thing, None)
        paper = paper_of(NEVER)
        found = {("main", head): ranking(NEVER, paper, "main", head, [X], LADDER) for head in heads(NEVER, "main")}
        refused(self, BadRankings, found, longest, NEVER, paper, found, None)


if __name__ == "__main__":
    unittest.main()

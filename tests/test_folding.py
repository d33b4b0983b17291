"""[14.1] to [14.3], and what [20.7] says of folded programs: what follows from a paper."""

import random
import unittest

from everypath.comparing import compared, unlike_from
from everypath.errors import BadCondition, BadName, BadPaper, BadPlace, BadProgram
from everypath.folding import answer_at, dead, folded, known
from everypath.graphs import places
from everypath.judge import judged
from everypath.leastpapers import least_paper
from everypath.programs import Program, names_of
from everypath.reading import read
from everypath.refusals import NotTaken
from everypath.runs import played, printed
from everypath.sharper import narrowed
from everypath.traces import trace
from everypath.writing import written
from everypath.zones import closed, strip_in
from everypath.zonesteps import when
from tests.helpers import X, any_objects, eq, le, lt, ne, no, num, p_program, refused, told
from tests.samples import all_runs, empty
from tests.test_judge import CALLS, SMALL, small_paper
from tests.test_leastpapers import NEVER, RECURS, random_cuts
from tests.test_paths import random_program

THREE = read("def main() { x = 3; if x < 5 { print x; } else { print 0; } return x; }")


FINE = list(range(-9, 10))


def least(program, ladder=FINE, cuts=None, rounds=0):
    cuts = cuts or {f: [] for f, _, _ in program.functions()}
    return narrowed(program, least_paper(program, ladder, cuts), rounds)


def folded_text(text, ladder=FINE, cuts=None, rounds=0):
    program = read(text)
    return written(folded(program, least(program, ladder, cuts, rounds)))


def answer_words(paper, f, place, condition):
    zones = paper[3][f][place].values()
    if all(closed(when(zone, no(condition))) is None for zone in zones):
        return "always"
    return "never" if all(closed(when(zone, condition)) is None for zone in zones) else "either"


class FoldingTest(unittest.TestCase):
    def test_example(self):
        paper = least(THREE, [3])
        self.assertEqual(told(self, dead, program=THREE, paper=paper), [("main", 5), ("main", 6), ("main", 8)])
        self.assertEqual(told(self, known, program=THREE, paper=paper, f="main", place=7, x="x"), 3)
        found = folded(program=THREE, paper=paper)
        self.assertEqual(found, read("def main() { x = 3; print 3; return 3; }"))
        self.assertEqual(found, folded(THREE, [*paper]))

    def test_dead(self):
        self.assertEqual(dead(NEVER, least(NEVER, [0, 8])),
                         [("f", 1), ("f", 5), ("f", 6), ("main", 1), ("main", 2), ("main", 3), ("main", 4)])
        self.assertEqual([pair for pair in dead(RECURS, least(RECURS)) if pair[0] == "lone"],
                         [("lone", 0), ("lone", 1), ("lone", 2)])
        self.assertEqual(dead(p_program(), least(p_program(), [0, 7])), [("half", 2), ("main", 13)])
        source = random.Random(1)
        for program in [random_program(source) for _ in range(15)]:
            paper = least(program, [-3, 0, 4], random_cuts(program, source), 1)
            found = dead(program, paper)
            expected = [(f, place) for f, _, _ in program.functions() for place in range(places(program, f))
                        if (paper[2][f] is None if place == 1 else not paper[3][f][place])]
            self.assertEqual(found, expected)
            for inputs, _, why in (all_runs(program, 40, 200) or [])[::3]:
                for state in played(program, inputs, 40)[1]:
                    for f, place, _ in state:
                        self.assertNotIn((f, place), found)
                if why[0] == "ends":
                    self.assertNotIn(("main", 1), found)

    def test_known(self):
        source = random.Random(2)
        some = 0
        for program in [CALLS, RECURS, THREE] + [random_program(source) for _ in range(10)]:
            paper = least(program, [-3, 0, 4], random_cuts(program, source), 2)
            for f, _, _ in program.functions():
                for place in range(places(program, f)):
                    for x in names_of(program, f) if place != 1 else []:
                        strips = [strip_in(zone, x) for zone in paper[3][f][place].values()]
                        strips = [strip for strip in strips if strip is not None]
                        alone = strips and strips[0][2] == 0 and all(strip == strips[0] for strip in strips)
                        some += bool(alone)
                        found = known(program, paper, f, place, x)
                        self.assertEqual(found, strips[0][0] if alone else None)
        self.assertGreater(some, 30)
        paper = small_paper()
        self.assertEqual(told(self, known, program=SMALL, paper=paper, f="main", place=0, x="x"), 0)
        self.assertIsNone(told(self, known, program=SMALL, paper=paper, f="main", place=2, x="x"))
        self.assertIsNone(known(SMALL, paper, "main", 3, "x"))
        paper[3]["main"][3][()] = (["x"], {("x", "0"): -1, ("0", "x"): 0}, {"x": (1, 0)})
        self.assertIsNone(known(SMALL, paper, "main", 3, "x"))
        paper[3]["main"][3][()] = (["x"], {("x", "0"): -3, ("0", "x"): 5}, {"x": (3, 1)})
        paper[2]["main"] = (["="], {}, {"=": (1, 0)})
        self.assertEqual(known(SMALL, paper, "main", 3, "x"), -5)
        cut = least(SMALL, [], {"main": [("x", 1), ("x", 2)]})
        self.assertIsNone(known(SMALL, cut, "main", 2, "x"))
        two = read("def main() { y = any(0, 1); if y < 1 { x = 7; } else { x = 7; } return x; }")
        self.assertEqual(known(two, least(two, [], {"main": [("y", 1)]}), "main", 7, "x"), 7)
        three = read("def main() { y = any(0, 1); if y < 1 { x = 7; } else { x = 8; } return x; }")
        self.assertIsNone(known(three, least(three, [], {"main": [("y", 1)]}), "main", 7, "x"))

    def test_answers(self):
        source = random.Random(3)
        seen = set()
        conditions = [lt(X, num(3)), no(lt(X, num(3))), eq(X, num(0)), ne(X, num(1)), le(num(0), num(0)), lt(num(0), num(0))]
        for program in [SMALL, THREE, p_program()]:
            paper = least(program, [0, 3], random_cuts(program, source), 1)
            for place in range(places(program, "main")):
                for condition in conditions if place != 1 else []:
                    found = answer_at(program, paper, "main", place, condition)
                    self.assertEqual(found, answer_words(paper, "main", place, condition))
                    seen.add(found)
        self.assertEqual(seen, {"always", "never", "either"})
        paper = small_paper()
        self.assertEqual(told(self, answer_at, program=SMALL, paper=paper, f="main", place=3, condition=lt(X, X)), "always")
        self.assertEqual(told(self, answer_at, program=SMALL, paper=paper, f="main", place=0, condition=lt(X, X)), "never")
        self.assertEqual(told(self, answer_at, program=SMALL, paper=paper, f="main", place=2, condition=lt(X, num(1))),
                         "either")
        self.assertEqual(answer_at(SMALL, paper, "main", 2, le(X, num(3))), "always")

    def test_folded_statements(self):
        for text, found in (
                ("def main() { x = any(0, 3); return x; print x; }", "def main ( ) { x = any ( 0 , 3 ) ; return x ; }"),
                ("def main() { x = 2; y = any(0, 3); if x < y { x = y - x; } else { assume y <= x; } return x + y; }",
                 "def main ( ) { x = 2 ; y = any ( 0 , 3 ) ; if 2 < y { x = 3 - 2 ; } return x + y ; }"),
                ("def main() { while x < 0 { x = 1; } while x == 0 { x = 0; y = x; } return y; }",
                 "def main ( ) { while 0 == 0 { x = 0 ; y = 0 ; } }"),
                ("def main() { x = 1; assert x == 1; assume x < 2; assert x == 2; return x; }",
                 "def main ( ) { x = 1 ; assert 1 == 2 ; }"),
                ("def main() { if a == 0 { if b > 0 { a = 1; } else { b = any(0, 1); } } b = b + a; }",
                 "def main ( ) { b = any ( 0 , 1 ) ; b = b + 0 ; }"),
                ("def f(a, b) { c = a; return c; } def main() { y = 4; x = f(y, z); if x > 9 { z = f(x, x); } return z; }",
                 "def f ( a , b ) { c = 4 ; return 4 ; } def main ( ) { y = 4 ; x = f ( 4 , 0 ) ; return 0 ; }"),
                ("def f(a) { return a; } def main() { if 1 < 0 { x = f(2); } return x; }",
                 "def f ( a ) { } def main ( ) { return 0 ; }"),
                ("def main() { x = any(0, 9); while x > 3 { y = 0; x = x - 1; print y; } print y; return y; }",
                 "def main ( ) { x = any ( 0 , 9 ) ; while 3 < x { y = 0 ; x = x - 1 ; print 0 ; } print 0 ; return 0 ; }")):
            self.assertEqual(folded_text(text), found)
        self.assertEqual(folded_text("def main() { x = any(0, 1); if x < 1 { y = 5; } else { y = 6; } if y < 6 { print y; } "
                                     "return y mod 5; }", FINE, {"main": [("x", 1)]}),
                         "def main ( ) { x = any ( 0 , 1 ) ; if x < 1 { y = 5 ; } else { y = 6 ; } if y < 6 { print 5 ; } "
                         "return y mod 5 ; }")

    def test_condition_of_a_while_is_read_at_its_head(self):
        program = read("def main() { x = 5; y = 2; while x > y { x = x - 1; } return x; }")
        self.assertEqual(written(folded(program, least(program, [0, 5], None, 5))),
                         "def main ( ) { x = 5 ; y = 2 ; while 2 < x { x = x - 1 ; } return 2 ; }")

    def test_papers_by_hand(self):
        program = read("def main() { x = any(0, 3); if x < 9 { x = 1; } return x; }")
        paper = least(program)
        self.assertEqual(written(folded(program, paper)), "def main ( ) { x = any ( 0 , 3 ) ; x = 1 ; return 1 ; }")
        wide = empty(program, {})
        for place in range(places(program, "main")):
            wide[3]["main"][place] = {} if place == 1 else {(): (["x"], {}, {"x": (1, 0)})}
        wide[1]["main"], wide[2]["main"] = ([], {}, {}), (["="], {}, {"=": (1, 0)})
        self.assertIsNone(judged(program, wide))
        self.assertEqual(folded(program, wide), program)
        behind = read("def main() { x = any(0, 3); return x; x = y; y = x; if x < y { print y; } }")
        odd = least(behind)
        things = (["x", "y"], {("x", "0"): 4, ("0", "x"): -4}, {"x": (1, 0), "y": (1, 0)})
        for place in range(3, places(behind, "main")):
            odd[3]["main"][place][()] = things
        odd[3]["main"][4] = {(): (["x", "y"], {}, {"x": (1, 0), "y": (1, 0)})}
        for place in range(4, places(behind, "main")):
            odd[3]["main"][place] = {(): (["x", "y"], {}, {"x": (1, 0), "y": (1, 0)})}
        odd[2]["main"] = (["="], {}, {"=": (1, 0)})
        self.assertIsNone(judged(behind, odd))
        self.assertEqual(written(folded(behind, odd)), "def main ( ) { x = any ( 0 , 3 ) ; return x ; x = y ; y = x ; "
                         "if x < y { print y ; } }")

    def test_folded_runs_as_the_program_does(self):
        source = random.Random(4)
        programs = [CALLS, RECURS, NEVER, THREE, p_program()] + [random_program(source) for _ in range(40)]
        less = 0
        for program in programs:
            paper = least(program, [-4, -1, 0, 2, 7], random_cuts(program, source), source.randrange(3))
            found = folded(program, paper)
            less += written(found) != written(program)
            self.assertEqual([function[:2] for function in found.functions()],
                             [function[:2] for function in program.functions()])
            for inputs, _, why in (all_runs(program, 60, 300) or [])[::3]:
                self.alike(program, found, inputs, 60)
                self.alike(program, found, inputs[:-1], 60)
                self.alike(program, found, [*inputs[:-1], 99], 60)
        self.assertGreater(less, 20)

    def alike(self, program, other, inputs, steps):
        one, two = played(program, inputs, steps), played(other, inputs, steps)
        if one[0] == ("going",):
            self.assertTrue(two[0] == one[0] or len(two[1]) <= len(one[1]))
            return
        self.assertLessEqual(len(two[1]), len(one[1]))
        self.assertEqual(two[0][0], one[0][0])
        if one[0][0] == "ends":
            self.assertEqual(two[0], one[0])
        if two[0] != ("going",):
            self.assertEqual(trace(program, inputs, steps), trace(other, inputs, steps))
            self.assertEqual([n for _, n in printed(program, inputs, steps)], [n for _, n in printed(other, inputs, steps)])

    def test_none_part_a_program_from_its_folded_one(self):
        source = random.Random(5)
        told_words = []
        for program in [CALLS, THREE, p_program(), RECURS] + [random_program(source) for _ in range(8)]:
            found = folded(program, least(program, [-4, 0, 2, 7], random_cuts(program, source), 1))
            for one, other in ((program, program), (program, found), (found, program)):
                answer = compared(one, other, 40, 60)
                told_words.append(answer and answer[0])
                self.assertIn(answer and answer[0], ("alike", "so far", None))
                self.assertIn(unlike_from(one, other, 40, 60), (None, "many"))
        self.assertGreater(told_words.count("alike"), 9)

    def test_refusals(self):
        bad, paper = small_paper(2), small_paper()
        why = judged(SMALL, bad)
        for function, others in ((dead, 0), (known, 3), (answer_at, 3), (folded, 0)):
            for thing in any_objects():
                if not isinstance(thing, Program):
                    refused(self, BadProgram, thing, function, thing, *[None] * (others + 1))
                refused(self, BadPaper, thing, function, SMALL, thing, *[None] * others)
            with self.assertRaises(NotTaken) as caught:
                function(SMALL, bad, *[None] * others)
            self.assertEqual(caught.exception.why, why)
        for thing in any_objects():
            for function in (known, answer_at):
                if thing != "main":
                    refused(self, BadName, thing, function, SMALL, paper, thing, None, None)
                if type(thing) is not int or not 0 <= thing < 4 or thing == 1:
                    refused(self, BadPlace, thing, function, SMALL, paper, "main", thing, None)
            if thing != "x":
                refused(self, BadName, thing, known, SMALL, paper, "main", 0, thing)
            refused(self, BadCondition, thing, answer_at, SMALL, paper, "main", 0, thing)
        for place in (1, 4, -1, True):
            refused(self, BadPlace, place, known, SMALL, paper, "main", place, "x")
            refused(self, BadPlace, place, answer_at, SMALL, paper, "main", place, lt(X, X))
        wrong = lt(X, ("name", "y"))
        refused(self, BadCondition, wrong, answer_at, SMALL, paper, "main", 0, wrong)
        refused(self, BadName, "a0", known, p_program(), least(p_program()), "half", 0, "a0")


if __name__ == "__main__":
    unittest.main()

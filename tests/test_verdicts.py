"""[13.1] to [13.5]: what papers show, verdicts."""

import random
import unittest

from everypath.covers import closed_by, cover, paths
from everypath.errors import BadAssertion, BadCuts, BadLadder, BadPaper, BadProgram, BadSteps
from everypath.graphs import assertions, edges
from everypath.judge import judged
from everypath.leastpapers import least_paper
from everypath.papers import is_paper
from everypath.programs import Program
from everypath.reading import read
from everypath.refusals import BadMany, BadRounds, NotTaken
from everypath.runs import breaking
from everypath.sharper import narrowed
from everypath.verdicts import is_verdict, shows, verdict, verdicts
from everypath.zones import closed
from everypath.zonesteps import when
from tests.helpers import any_objects, listed, p_program, refused, shape, told, tupled_all
from tests.samples import all_runs
from tests.test_judge import CALLS, LADDER, SMALL, small_paper
from tests.test_ladders import NOT_LADDERS
from tests.test_layers import NOT_MANY
from tests.test_leastpapers import random_cuts
from tests.test_paths import random_program
from tests.test_runs import NOT_STEPS
from tests.test_sharper import NOT_ROUNDS

DOWN = read("def main() { x = any(0, 1000000); y = x; while 0 < x { x = x - 1; y = y - 1; } assert y == 0; }")
MIXED = read("""def f(a) { assert a < 5; return a + 1; }
                def main() { x = any(0, 3); assert x != 2; y = f(x); z = any(0, 1); assert y <= 4;
                             while x > 0 { x = x - 1; assert y - x >= 1; } assert 0 == 0 and x == 0; assert z == 0; }""")
ODD = read("def main() { x = any(0, 30); assume x mod 2 == 1; x = x + 2; assert x mod 2 == 1; assert x != 9; }")
LOOP = read("def main() { x = 0; while x < 50 { x = x + 2; assert x != 51; } assert x == 50; }")
FREE = {"ladder": [-3, 0, 3, 20], "rounds": 2}


def shown(program, paper, assertion):
    """Whether the paper shows it, by the words."""
    f, number = assertion
    place, _, action = edges(program, f)[number]
    return all(closed(when(zone, ("not", action[1]))) is None for zone in paper[3][f][place].values())


def by_the_words(program, assertion, ladder, cuts, rounds, steps, many):
    """What the verdict is to be; covers aside, which are free."""
    found = paths(program, steps, many)
    for _, why, inputs in found or []:
        if why == ("breaks", *assertion):
            return ("unsafe", inputs, steps)
    paper = narrowed(program, least_paper(program, ladder, cuts), rounds)
    if shown(program, paper, assertion):
        return ("safe", paper)
    if found is None:
        return ("open", ("many",))
    going = [sides for sides, why, _ in found if why == ("going",)]
    return ("open", ("going", going[0])) if going else ("safe", cover(program, steps, many), steps)


class VerdictsTest(unittest.TestCase):
    def test_example(self):
        program = p_program()
        for ladder in ([], [0], LADDER):
            found = told(self, verdict, program=program, assertion=("main", 7), ladder=ladder,
                         cuts={"main": [], "half": []}, rounds=0, steps=28, many=40)
            self.assertEqual(shape(found), shape(("unsafe", [18], 28)))
        paper = least_paper(DOWN, [-1, 0, 1], {"main": []})
        assertion = assertions(DOWN)[0]
        found = told(self, verdict, program=DOWN, assertion=assertion, ladder=[-1, 0, 1], cuts={"main": []}, rounds=0,
                     steps=20, many=30)
        self.assertEqual(shape(found), shape(("safe", paper)))
        self.assertIs(closed_by(DOWN, 20, 30), False)
        self.assertEqual(paper[3]["main"][4][()][1][("x", "y")], 0)
        self.assertEqual(paper[3]["main"][4][()][1][("y", "x")], 0)

    def test_shows(self):
        for program in (MIXED, ODD, LOOP, DOWN, CALLS):
            for rounds in (0, 3):
                cuts = {f: [] for f, _, _ in program.functions()}
                paper = narrowed(program, least_paper(program, [-3, 0, 1, 20], cuts), rounds)
                for assertion in assertions(program):
                    found = told(self, shows, program=program, paper=paper, assertion=assertion)
                    self.assertIs(found, shown(program, paper, assertion))
        paper = least_paper(ODD, [], {"main": []})
        self.assertEqual([shows(ODD, paper, one) for one in assertions(ODD)], [True, False])
        nobody = read("def main() { assume 0 == 1; assert 0 == 1; }")
        self.assertIs(shows(nobody, least_paper(nobody, [], {"main": []}), ("main", 1)), True)

    def test_what_is_shown_no_run_breaks(self):
        source = random.Random(1)
        some = 0
        for program in [MIXED, ODD, CALLS, p_program()] + [random_program(source) for _ in range(25)]:
            cuts = random_cuts(program, source)
            paper = narrowed(program, least_paper(program, [-4, -1, 0, 1, 5], cuts), 2)
            runs = all_runs(program, 60, 500)
            if runs is None:
                continue
            broken = {why[1:] for _, _, why in runs if why[0] == "breaks"}
            for assertion in assertions(program):
                if shows(program, paper, assertion):
                    some += 1
                    self.assertNotIn(assertion, broken)
        self.assertGreater(some, 5)

    def test_by_the_words(self):
        source = random.Random(2)
        words = set()
        programs = [MIXED, ODD, LOOP, CALLS, p_program()] + [random_program(source) for _ in range(12)]
        for program in programs:
            told_safe = {}
            for steps, many in ((0, 1), (12, 3), (12, 40), (40, 6), (70, 200)):
                cuts = random_cuts(program, source)
                ladder = sorted(source.sample(range(-6, 20), 3))
                rounds = source.randrange(3)
                expected = []
                for assertion in assertions(program):
                    found = verdict(program, assertion, ladder, cuts, rounds, steps, many)
                    wanted = by_the_words(program, assertion, ladder, cuts, rounds, steps, many)
                    self.assertEqual(shape(found), shape(wanted))
                    words.add((found[0], len(found)))
                    self.assertIs(is_verdict(program, assertion, found), found[0] != "open")
                    self.assertIs(is_verdict(program, assertion, listed(found)), found[0] != "open")
                    self.assertIs(is_verdict(program, assertion, tupled_all(found)), found[0] != "open")
                    if found[0] != "open":
                        self.assertEqual(told_safe.setdefault(assertion, found[0]), found[0])
                    expected.append((assertion, found[0]))
                self.assertEqual(shape(verdicts(program, ladder, cuts, rounds, steps, many)), shape(expected))
        self.assertEqual(words, {("unsafe", 3), ("safe", 2), ("safe", 3), ("open", 2)})

    def test_each_word(self):
        cuts = {"main": []}
        one, other = assertions(ODD)
        self.assertEqual(verdict(ODD, other, [], cuts, 0, 30, 9), ("unsafe", [7], 30))
        self.assertEqual(verdict(ODD, other, [], cuts, 0, 30, 1), ("open", ("many",)))
        self.assertEqual(verdict(ODD, other, [], cuts, 0, 3, 9), ("open", ("going", [0])))
        self.assertEqual(verdict(ODD, one, [], cuts, 0, 3, 1)[0], "safe")
        within, behind = assertions(LOOP)
        self.assertEqual(told(self, verdict, program=LOOP, assertion=behind, ladder=[], cuts=cuts, rounds=0, steps=60,
                              many=9), ("open", ("going", paths(LOOP, 60, 9)[0][0])))
        found = told(self, verdict, program=LOOP, assertion=behind, ladder=[], cuts=cuts, rounds=0, steps=120, many=9)
        self.assertEqual((found[0], found[2]), ("safe", 120))
        self.assertEqual(verdict(LOOP, within, [], cuts, 0, 5, 1)[0], "safe")
        self.assertEqual(verdict(LOOP, behind, [47], cuts, 0, 5, 1)[0], "open")
        self.assertEqual(verdict(LOOP, behind, [50], cuts, 5, 5, 1)[0], "safe")
        found = told(self, verdicts, program=MIXED, ladder=[0, 4], cuts={"f": [], "main": []}, rounds=1, steps=9, many=9)
        self.assertEqual([word for _, word in found], ["safe", "unsafe", "open", "safe", "open", "open"])
        self.assertEqual([assertion for assertion, _ in found], assertions(MIXED))
        self.assertEqual(verdicts(SMALL, [], cuts, 0, 3, 3), [])

    def refused_ones(self, program, assertion, things):
        for thing in things:
            self.assertIs(is_verdict(program, assertion, thing), False, thing)

    def test_changed_verdicts(self):
        broken, safe = assertions(MIXED)[1], assertions(MIXED)[0]
        inputs = verdict(MIXED, broken, [], {"f": [], "main": []}, 0, 30, 9)[1]
        self.assertEqual(inputs, [2])
        for steps in range(40):
            self.assertIs(is_verdict(MIXED, broken, ("unsafe", [2], steps)), steps >= 2)
        for n in range(-1, 6):
            self.assertIs(is_verdict(MIXED, broken, ["unsafe", (n, 0), 30]), n == 2)
        self.assertIs(told(self, is_verdict, program=MIXED, assertion=broken, thing=("unsafe", [2], 30)), True)
        self.refused_ones(MIXED, safe, [("unsafe", [2], 30), ("unsafe", [0, 0], 30)])
        self.refused_ones(MIXED, broken, [("unsafe", [2]), ("unsafe", [2], 30, 30), ("unsafe", 2, 30), ("unsafe", [True], 30),
                                          ("unsafe", [2], True), ("unsafe", [2], -1), ("unsafe", [2], None), ("unsafe", [], 30),
                                          ("unsafe", [], [2]), ("safe", [2], 30), ("open", [2], 30), ([2], 30), ("unsafe", ["2"], 30)])

    def test_changed_papers(self):
        cuts = {"main": []}
        one, other = assertions(ODD)
        paper = verdict(ODD, one, [], cuts, 1, 30, 1)[1]
        self.assertIs(is_verdict(ODD, one, ("safe", paper)), True)
        self.refused_ones(ODD, other, [("safe", paper)])
        self.refused_ones(ODD, one, [("unsafe", paper), ("open", paper), ("safe", paper, 30), ("safe",), (paper,), paper,
                                     ("safe", paper[:3]), ("safe", None), ("safe", (*paper, {}))])
        for place in range(len(paper[3]["main"])):
            other_paper = listed(paper)
            if () in other_paper[3]["main"][place]:
                del other_paper[3]["main"][place][()]
                self.assertIsNotNone(judged(ODD, other_paper))
                self.refused_ones(ODD, one, [("safe", other_paper)])
        wide = least_paper(ODD, [], cuts)
        for cells in wide[3]["main"]:
            for row in cells:
                cells[row] = (["x"], {}, {"x": (1, 0)})
        wide[2]["main"] = (["="], {}, {"=": (1, 0)})
        self.assertIsNone(judged(ODD, wide))
        self.refused_ones(ODD, one, [("safe", wide)])

    def test_changed_covers(self):
        assertion = assertions(LOOP)[1]
        tree = cover(LOOP, 120, 9)
        self.assertIs(is_verdict(LOOP, assertion, ("safe", tree, 120)), True)
        self.assertIs(is_verdict(LOOP, assertion, ("safe", tree, 200)), True)
        self.refused_ones(LOOP, assertion, [
            ("safe", tree, 60), ("safe", tree, True), ("safe", tree, None), ("safe", tree), ("unsafe", tree, 120), (tree, 120),
            ("safe", tree[1], 120), ("safe", ("path", []), 120), ("safe", (tree[0], tree[2], tree[1]), 120),
            ("safe", cover(LOOP, 60, 9), 60), ("safe", cover(LOOP, 60, 9), 120), ("safe", tree, 120, 1), ("safe", None, 120)])
        one, two, three = assertions(MIXED)[:3]
        tree = cover(MIXED, 90, 40)
        self.assertIs(is_verdict(MIXED, one, ("safe", tree, 90)), True)
        self.assertIs(is_verdict(MIXED, two, ("safe", tree, 90)), False)
        self.assertIs(is_verdict(MIXED, three, ("safe", tree, 90)), True)

    def test_any_objects(self):
        assertion = assertions(ODD)[0]
        for thing in any_objects():
            self.refused_ones(ODD, assertion, [thing, ("safe", thing), ("safe", thing, 30), ("safe", thing, thing), (thing, thing),
                                               ("unsafe", thing, 30), ("unsafe", thing, thing), (thing, [7], 30), ("open", thing),
                                               ("open", ("many",)), ("open", ("going", thing)), [thing, thing, thing]])

    def test_true_of_all_runs(self):
        source = random.Random(3)
        for program in [random_program(source) for _ in range(10)]:
            runs = all_runs(program, 50, 300)
            for assertion in assertions(program):
                found = verdict(program, assertion, [-2, 0, 3], random_cuts(program, source), 1, 50, 60)
                if found[0] == "unsafe":
                    self.assertIs(breaking(program, assertion, found[1], 50), True)
                if found[0] == "safe":
                    self.assertFalse(any(why == ("breaks", *assertion) for _, _, why in runs or []))

    def test_refusals(self):
        right = (ODD, ("main", 3), [], {"main": []}, 0, 3, 3)
        taken, bad = least_paper(ODD, [], {"main": []}), small_paper(2)
        for thing in any_objects():
            if not isinstance(thing, Program):
                refused(self, BadProgram, thing, shows, thing, None, None)
                refused(self, BadProgram, thing, verdict, thing, *[None] * 6)
                refused(self, BadProgram, thing, verdicts, thing, *[None] * 5)
                refused(self, BadProgram, thing, is_verdict, thing, None, None)
            refused(self, BadPaper, thing, shows, ODD, thing, None)
            refused(self, BadAssertion, thing, shows, ODD, taken, thing)
            refused(self, BadAssertion, thing, verdict, ODD, thing, *[None] * 5)
            refused(self, BadAssertion, thing, is_verdict, ODD, thing, None)
            refused(self, BadCuts, thing, verdict, *right[:3], thing, *[None] * 3)
            refused(self, BadCuts, thing, verdicts, ODD, [], thing, *[None] * 3)
        with self.assertRaises(NotTaken) as caught:
            shows(SMALL, bad, None)
        self.assertEqual(shape(caught.exception.why), shape(judged(SMALL, bad)))
        self.assertIs(is_paper(SMALL, bad), True)
        for at, error, things in ((2, BadLadder, NOT_LADDERS), (4, BadRounds, NOT_ROUNDS), (5, BadSteps, NOT_STEPS), (6, BadMany, NOT_MANY)):
            for thing in things:
                behind = [None] * (6 - at)
                refused(self, error, thing, verdict, *right[:at], thing, *behind)
                refused(self, error, thing, verdicts, ODD, *right[2:at], thing, *behind)


if __name__ == "__main__":
    unittest.main()

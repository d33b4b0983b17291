"""[11.1] to [11.5]: narrowed papers, papers with cuts."""

import random
import unittest

from everypath.errors import BadName, BadOther, BadPaper, BadPlace, BadProgram
from everypath.judge import judged, lies, met_papers
from everypath.leastpapers import empty_paper, least_paper, wanted
from everypath.papers import is_paper
from everypath.programs import Program
from everypath.refusals import BadRounds, NotTaken
from everypath.runs import played
from everypath.sharper import is_sharper, narrowed, rows_at, stands_from, uncut
from tests.helpers import any_objects, refused, shape, told
from tests.samples import all_runs, empty
from tests.test_judge import CALLS, SMALL, small_paper
from tests.test_leastpapers import CASES, NEVER, Q, joined_words, lies_within, random_cuts, wheres, zone_at
from tests.test_paths import random_program

NOT_ROUNDS = [thing for thing in any_objects() if type(thing) is not int] + [-1, -7, True, False, "2", [2]]
WIDE = [-10, 0, 10]


class SharperTest(unittest.TestCase):
    def test_example(self):
        least = least_paper(Q, WIDE, {"main": []})
        found = told(self, narrowed, program=Q, paper=least, rounds=4)
        zone = found[3]["main"][3][()]
        self.assertEqual((zone[1][("0", "x")], zone[1][("x", "0")]), (0, 10))
        self.assertEqual(shape(found[3]["main"][6][()]),
                         shape((["x"], {("0", "x"): -10, ("x", "0"): 10}, {"x": (0, 10)})))
        self.assertEqual(told(self, stands_from, program=Q, paper=least, rounds=9), 5)
        self.assertIsNone(told(self, stands_from, program=Q, paper=least, rounds=4))
        cut = least_paper(Q, WIDE, {"main": [("x", 4)]})
        self.assertEqual(shape(cut[3]["main"][5]), shape({(0,): (["x"], {("0", "x"): 0, ("x", "0"): 3}, {"x": (0, 2)}),
                                                          (1,): (["x"], {("0", "x"): -4}, {"x": (2, 0)})}))
        self.assertEqual(shape(told(self, rows_at, program=Q, paper=cut, f="main", place=6)), shape([(1,)]))

    def papers(self, source):
        """Programs with papers that the judge takes."""
        for program, ladder, cuts in CASES:
            yield program, least_paper(program, ladder, cuts)
        for program in [random_program(source) for _ in range(6)]:
            yield program, least_paper(program, [-4, 0, 1, 6], random_cuts(program, source))
        yield SMALL, small_paper()

    def test_narrowed_by_the_words(self):
        for program, paper in self.papers(random.Random(1)):
            row = [paper]
            for rounds in range(7):
                found = narrowed(program, paper, rounds)
                self.assertEqual(found, row[-1])
                self.assertIs(is_paper(program, found), True)
                self.assertIsNone(judged(program, found))
                row.append(wanted(program, found))
                self.assertTrue(lies_within(row[-1], row[-2]))
            still = [at for at in range(7) if row[at] == row[at + 1]]
            for rounds in range(7):
                expected = still[0] if still and still[0] <= rounds else None
                self.assertEqual(stands_from(program, paper, rounds), expected)

    def test_no_rounds_and_rounds_that_change_nothing(self):
        least = least_paper(Q, WIDE, {"main": []})
        self.assertEqual(shape(told(self, narrowed, program=Q, paper=least, rounds=0)), shape(least))
        stands = narrowed(Q, least, 5)
        self.assertEqual(narrowed(Q, stands, 1), stands)
        self.assertEqual(narrowed(Q, least, 10 ** 9), stands)
        self.assertEqual(told(self, stands_from, program=Q, paper=stands, rounds=0), 0)
        self.assertEqual(stands_from(Q, stands, 10 ** 30), 0)
        self.assertIsNone(stands_from(Q, least, 0))
        self.assertEqual(stands_from(Q, least, 5), 5)

    def test_cells_that_nothing_reaches_go(self):
        paper = small_paper()
        paper[3]["main"][3][()] = (["x"], {}, {"x": (1, 0)})
        paper[2]["main"] = (["="], {}, {"=": (1, 0)})
        self.assertIsNone(judged(SMALL, paper))
        self.assertEqual(narrowed(SMALL, paper, 1)[3]["main"][3], {})
        self.assertEqual(stands_from(SMALL, paper, 3), 1)
        self.assertEqual(narrowed(SMALL, paper, 1), small_paper())
        paper = least_paper(NEVER, [0, 8], {"f": [], "main": []})
        paper[1]["main"] = ([], {}, {})
        paper[2]["f"] = (["=", "a0"], {}, {"=": (1, 0), "a0": (1, 0)})
        paper[3]["main"][2] = {(): (["x"], {}, {"x": (1, 0)})}
        paper[3]["main"][3] = {(): (["x"], {}, {"x": (1, 0)})}
        paper[2]["main"] = (["="], {}, {"=": (1, 0)})
        self.assertIsNone(judged(NEVER, paper))
        found = narrowed(NEVER, paper, 5)
        self.assertEqual((found[2]["f"], found[2]["main"], found[3]["main"][2]), (None, None, {}))

    def test_every_run_lies_in_narrowed_ones(self):
        source = random.Random(2)
        for program, paper in self.papers(source):
            found = narrowed(program, paper, 3)
            for inputs, _, _ in (all_runs(program, 40, 300) or [])[::9]:
                for state in played(program, inputs, 40)[1]:
                    self.assertIs(lies(program, found, state), True)

    def test_met_papers_are_taken(self):
        source = random.Random(7)
        for program, ladder, cuts in CASES + [(random_program(source), [-4, 0, 1, 6], None) for _ in range(8)]:
            cuts = random_cuts(program, source) if cuts is None else cuts
            one = narrowed(program, least_paper(program, ladder, cuts), source.randrange(3))
            other = least_paper(program, sorted(source.sample(range(-9, 12), 3)), cuts)
            found = met_papers(program, one, other)
            self.assertIsNone(judged(program, found))
            self.assertIsNone(judged(program, met_papers(program, found, one)))
            for inputs, _, _ in (all_runs(program, 30, 200) or [])[::9]:
                for state in played(program, inputs, 30)[1]:
                    self.assertIs(lies(program, found, state), True)

    def test_rows_at(self):
        for program, paper in self.papers(random.Random(3)):
            for f in paper[3]:
                for place, cells in enumerate(paper[3][f]):
                    self.assertEqual(shape(rows_at(program, paper, f, place)), shape(sorted(cells)))
        self.assertEqual(told(self, rows_at, program=SMALL, paper=small_paper(), f="main", place=1), [])
        self.assertEqual(rows_at(SMALL, small_paper(), "main", 0), [()])

    def test_cuts_sharpen(self):
        source = random.Random(4)
        unlike = 0
        for program, ladder, cuts in CASES + [(random_program(source), [-4, 0, 1, 6], None) for _ in range(5)]:
            cuts = random_cuts(program, source) if cuts is None else cuts
            fewer = least_paper(program, ladder, {f: cuts[f][:-1] for f in cuts})
            more = least_paper(program, ladder, cuts)
            self.assertIs(is_sharper(program, more, fewer), True)
            self.assertTrue(lies_within(uncut(program, more), least_paper(program, ladder, {f: [] for f in cuts})))
            if any(cuts.values()):
                unlike += lies_within(fewer, uncut(program, more)) is False
        self.assertGreater(unlike, 2)

    def test_sharper_by_the_words(self):
        source = random.Random(5)
        seen = set()
        for program, ladder, cuts in CASES:
            for _ in range(10):
                more = least_paper(program, ladder, cuts)
                fewer = least_paper(program, ladder, {f: cuts[f][:source.randrange(len(cuts[f]) + 1)] for f in cuts})
                for paper in (more, fewer):
                    for where in source.sample(wheres(paper), 2) if source.random() < 0.5 else []:
                        bounds = zone_at(paper, where)[1]
                        for pair in list(bounds):
                            bounds[pair] += source.randrange(-1, 2)
                        if source.random() < 0.3 and where[0] == "cell":
                            del paper[3][where[1]][where[2]][where[3]]
                expected = True
                for where in wheres(more):
                    other = where if where[0] != "cell" else (*where[:3], where[3][:len(fewer[0][where[1]])])
                    one, two = zone_at(more, where), zone_at(fewer, other)
                    if two is None or joined_words(one, two) != (list(two[0]), two[1], two[2]):
                        expected = False
                seen.add(expected)
                self.assertIs(is_sharper(program, more, fewer), expected)
        self.assertEqual(seen, {True, False})
        program, ladder, cuts = CASES[6]
        self.assertIs(told(self, is_sharper, program=program, paper=least_paper(program, ladder, cuts),
                           other=empty_paper(program, cuts)), False)
        self.assertIs(is_sharper(program, empty_paper(program, cuts), empty_paper(program, cuts)), True)

    def test_others_with_unlike_cuts(self):
        one = empty_paper(CALLS, {"main": [("y", 2)], "sum": [("n", 1), ("k", 3)], "twice": []})
        for cuts in ({"main": [("y", 2)], "sum": [("n", 1)], "twice": []}, {"main": [], "sum": [], "twice": []}):
            self.assertIs(is_sharper(CALLS, one, empty_paper(CALLS, cuts)), True)
            refused(self, BadOther, one, is_sharper, CALLS, empty_paper(CALLS, cuts), one)
        for cuts in ({"main": [("y", 2)], "sum": [("k", 3)], "twice": []},
                     {"main": [("y", 3)], "sum": [], "twice": []},
                     {"main": [("y", 2), ("z", 0)], "sum": [], "twice": []}):
            other = empty_paper(CALLS, cuts)
            refused(self, BadOther, other, is_sharper, CALLS, one, other)

    def test_uncut(self):
        for program, paper in self.papers(random.Random(6)):
            found = told(self, uncut, program=program, paper=paper)
            self.assertIs(is_paper(program, found), True)
            self.assertEqual((found[0], found[1], found[2]), ({f: [] for f in paper[0]}, paper[1], paper[2]))
            for f in paper[3]:
                for cells, one in zip(paper[3][f], found[3][f]):
                    zone = None
                    for row in cells:
                        zone = joined_words(zone, cells[row])
                    self.assertEqual(one, {} if zone is None else {(): (list(zone[0]), zone[1], zone[2])})
            self.assertIs(is_sharper(program, paper, found), True)

    def test_refusals(self):
        bad = small_paper(2)
        why = judged(SMALL, bad)
        for thing in any_objects():
            if not isinstance(thing, Program):
                for function, others in ((narrowed, 2), (stands_from, 2), (rows_at, 3), (is_sharper, 2), (uncut, 1)):
                    refused(self, BadProgram, thing, function, thing, *[None] * others)
            for function, others in ((narrowed, 1), (stands_from, 1), (rows_at, 2), (is_sharper, 1), (uncut, 0)):
                refused(self, BadPaper, thing, function, SMALL, thing, *[None] * others)
            if thing != "main":
                refused(self, BadName, thing, rows_at, SMALL, bad, thing, None)
            if type(thing) is not int or not 0 <= thing < 4:
                refused(self, BadPlace, thing, rows_at, SMALL, bad, "main", thing)
            refused(self, BadOther, thing, is_sharper, SMALL, bad, thing)
        for thing in NOT_ROUNDS:
            refused(self, BadRounds, thing, narrowed, SMALL, bad, thing)
            refused(self, BadRounds, thing, stands_from, SMALL, bad, thing)
        for function in (narrowed, stands_from):
            for rounds in (0, 3):
                with self.assertRaises(NotTaken) as caught:
                    function(SMALL, bad, rounds)
                self.assertEqual(shape(caught.exception.why), shape(why))
        self.assertEqual(rows_at(SMALL, bad, "main", 2), [()])
        self.assertIs(is_sharper(SMALL, bad, small_paper()), True)
        self.assertEqual(uncut(SMALL, bad), bad)
        other = empty(CALLS, {})
        refused(self, BadOther, other, is_sharper, SMALL, bad, other)


if __name__ == "__main__":
    unittest.main()

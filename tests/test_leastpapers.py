"""[10.2] to [10.7]: what papers want, what is pushed, the least paper."""

import random
import unittest

from everypath.errors import BadCuts, BadLadder, BadName, BadPaper, BadPlace, BadProgram
from everypath.graphs import places
from everypath.judge import demands, judged, lies
from everypath.ladders import rounded
from everypath.leastpapers import empty_paper, least_paper, place_zone, pushed, pushes, wanted
from everypath.papers import is_paper
from everypath.programs import Program, names_of
from everypath.reading import read
from everypath.runs import played
from everypath.zones import is_below
from tests.helpers import any_objects, p_program, refused, shape, told
from tests.samples import all_runs, empty
from tests.test_judge import CALLS, LADDER, SMALL, small_paper
from tests.test_ladders import NOT_LADDERS
from tests.test_papers import NOT_CUTS
from tests.test_paths import random_program

Q = read("def main() { x = 0; while x < 10 { x = x + 2; } print x; }")
RECURS = read("""def down(n, k) { if n <= 0 { return k; } n = n - 1; k = up(n, k); return k; }
                 def up(n, k) { k = k + 2; k = down(n, k); return k; }
                 def main() { x = any(0, 6); y = down(x, 1); assert y mod 2 == 1; return y; }
                 def lone(a) { return a; }""")
NEVER = read("""def f(a) { while a == a { a = a + 1; } return 3; } def main() { x = f(0); print x; return 1; }""")
BIG = {"main": [("x", 3)], "half": [("a", 4)]}
CASES = [(Q, [-10, 0, 10], {"main": []}), (Q, [], {"main": [("x", 4)]}), (Q, [0], {"main": [("x", 4), ("x", 9)]}),
         (p_program(), [-1, 0, 5, 20], {"main": [], "half": []}), (p_program(), [-7, 0, 9], BIG),
         (RECURS, [-4, 0, 4, 9], {"down": [("n", 2)], "up": [], "main": [], "lone": []}), (NEVER, [0, 8], {"f": [], "main": []}),
         (CALLS, LADDER, {"main": [("y", 2)], "sum": [("n", 1), ("k", 3)], "twice": []})]


def joined_words(zone, other):
    """The join of two zones as they stand, by its words."""
    if zone is None or other is None:
        return other if zone is None else zone
    bounds = {pair: max(zone[1][pair], other[1][pair]) for pair in zone[1] if pair in other[1]}
    rests = {}
    for thing in zone[0]:
        (m, r), (n, s) = zone[2][thing], other[2][thing]
        top = max(abs(m), abs(n), abs(r - s))
        fit = [k for k in range(1, top + 1) if m % k == 0 and n % k == 0 and (r - s) % k == 0]
        rests[thing] = (0, r) if (m, n, r - s) == (0, 0, 0) else (max(fit), r % max(fit))
    return zone[0], bounds, rests


def put_at(paper, where, zone):
    if where[0] == "cell":
        paper[3][where[1]][where[2]][where[3]] = zone
    else:
        paper[1 if where[0] == "entry" else 2][where[1]] = zone


def wanted_words(program, paper):
    """What is wanted, by its words."""
    found = empty(program, paper[0])
    for _, where, zone in demands(program, paper):
        put_at(found, where, joined_words(zone_at(found, where), zone))
    return found


def zone_at(paper, where):
    if where[0] == "cell":
        return paper[3][where[1]][where[2]].get(where[3])
    return paper[1 if where[0] == "entry" else 2][where[1]]


def wheres(paper):
    return ([("entry", f) for f in paper[1] if paper[1][f] is not None]
            + [("exit", f) for f in paper[2] if paper[2][f] is not None]
            + [("cell", f, place, row) for f in paper[3] for place, cells in enumerate(paper[3][f]) for row in cells])


def pushed_words(program, ladder, paper):
    """What is pushed, by its words."""
    found = wanted_words(program, paper)
    for where in wheres(found):
        things, bounds, rests = rounded(zone_at(found, where), ladder)
        if where[0] == "cell":
            for (x, n), side in zip(paper[0][where[1]], where[3]):
                pair, bound = ((x, "0"), n - 1) if side == 0 else (("0", x), -n)
                bounds[pair] = min(bound, bounds.get(pair, bound))
        put_at(found, where, (things, bounds, rests))
    return found


def least_words(program, ladder, cuts):
    """The least paper, and how many times something changed."""
    paper, many = empty_paper(program, cuts), 0
    while True:
        more = pushed_words(program, ladder, paper)
        if more == paper:
            return paper, many
        paper, many = more, many + 1


def grown(program, ladder, paper, source):
    """Single zones exchanged for the join with what is pushed there, in any order, until none would grow."""
    while True:
        more = pushed_words(program, ladder, paper)
        growing = [where for where in wheres(more)
                   if joined_words(zone_at(paper, where), zone_at(more, where)) != zone_at(paper, where)]
        if not growing:
            return paper
        for where in source.sample(growing, source.randrange(1, len(growing) + 1)):
            put_at(paper, where, joined_words(zone_at(paper, where), zone_at(more, where)))


def lies_within(paper, other):
    """Whether each zone lies within that of the other paper, as both stand."""
    return all(zone_at(other, where) is not None and is_below(zone_at(paper, where), zone_at(other, where))
               for where in wheres(paper))


def random_cuts(program, source):
    cuts = {}
    for f, _, _ in program.functions():
        names = names_of(program, f)
        cuts[f] = list({(source.choice(names), source.randrange(-3, 6)) for _ in range(source.randrange(3))} if names else [])
    return cuts


class LeastPapersTest(unittest.TestCase):
    def test_example(self):
        ladder = [-10, 0, 10]
        paper = told(self, least_paper, program=Q, ladder=ladder, cuts={"main": []})
        cells = paper[3]["main"]
        self.assertEqual(shape(cells[3]), shape({(): (["x"], {("0", "x"): 0}, {"x": (2, 0)})}))
        self.assertEqual(shape(cells[4]), shape({(): (["x"], {("0", "x"): 0, ("x", "0"): 10}, {"x": (2, 0)})}))
        self.assertEqual(shape(cells[6]), shape({(): (["x"], {("0", "x"): -10}, {"x": (2, 0)})}))
        self.assertEqual(told(self, pushes, program=Q, ladder=ladder, cuts={"main": []}), 12)
        cells = least_paper(Q, [-10, 0, 10, 12], {"main": []})[3]["main"]
        self.assertEqual((cells[3][()][1][("x", "0")], cells[6][()][1][("x", "0")]), (12, 12))

    def test_by_the_words(self):
        source = random.Random(1)
        cases = CASES + [(program, sorted(source.sample(range(-9, 12), source.randrange(6))), random_cuts(program, source))
                         for program in [random_program(source) for _ in range(8)]]
        for program, ladder, cuts in cases:
            expected, many = least_words(program, ladder, cuts)
            paper = least_paper(program, ladder, cuts)
            self.assertEqual(paper, expected)
            self.assertEqual(pushes(program, ladder, cuts), many)
            self.assertIs(is_paper(program, paper), True)
            self.assertIsNone(judged(program, paper))
            self.assertEqual(paper, grown(program, ladder, empty_paper(program, cuts), source))

    def test_each_push(self):
        source = random.Random(2)
        for program, ladder, cuts in CASES:
            paper = empty_paper(program, cuts)
            for _ in range(14):
                self.assertEqual(wanted(program, paper), wanted_words(program, paper))
                paper = pushed_words(program, ladder, before := paper)
                self.assertEqual(pushed(program, ladder, before), paper)
                other = sorted(source.sample(range(-9, 12), 2))
                self.assertEqual(pushed(program, other, paper), pushed_words(program, other, paper))
            told(self, wanted, program=program, paper=paper)
            told(self, pushed, program=program, ladder=ladder, paper=paper)

    def test_pushes_count_what_changes(self):
        for program, ladder, cuts in CASES[:6]:
            many = told(self, pushes, program=program, ladder=ladder, cuts=cuts)
            papers = [empty_paper(program, cuts)]
            for _ in range(many + 1):
                papers.append(pushed(program, ladder, papers[-1]))
            self.assertEqual(papers[-1], papers[-2])
            self.assertNotEqual(papers[-2], papers[-3])
            self.assertEqual(papers[-1], least_paper(program, ladder, cuts))

    def test_wanted_of_papers_that_are_not_taken(self):
        paper = small_paper()
        paper[3]["main"][3] = {(): (["x"], {("x", "0"): 9}, {"x": (1, 0)})}
        found = told(self, wanted, program=SMALL, paper=paper)
        self.assertEqual(found[3]["main"][3], {})
        self.assertEqual(found[3]["main"][2], {(): (["x"], {("x", "0"): 3, ("0", "x"): 0}, {"x": (1, 0)})})
        self.assertEqual(found[2]["main"], (["="], {("=", "0"): 3, ("0", "="): 0}, {"=": (1, 0)}))
        none_left = small_paper()
        none_left[3]["main"][2][()] = (["x"], {("x", "0"): -1, ("0", "x"): 0}, {"x": (1, 0)})
        self.assertIsNone(wanted(SMALL, none_left)[2]["main"])
        begun = wanted(SMALL, empty(SMALL, {"main": [("x", 0)]}))
        self.assertEqual(shape(begun), shape(({"main": [("x", 0)]}, {"main": ([], {}, {})}, {"main": None},
                                              {"main": [{}, {}, {}, {}]})))
        begun = wanted(SMALL, begun)
        self.assertEqual(list(begun[3]["main"][0]), [(1,)])

    def test_what_nothing_demands_is_not_wanted(self):
        paper = least_paper(RECURS, [0, 4], {"down": [], "up": [], "main": [], "lone": []})
        paper[1]["lone"] = (["a"], {}, {"a": (1, 0)})
        paper[2]["lone"] = (["=", "a0"], {}, {"=": (1, 0), "a0": (1, 0)})
        found = wanted(RECURS, paper)
        self.assertEqual((found[1]["lone"], found[2]["lone"]), (None, None))
        self.assertEqual(list(found[3]["lone"][0]), [()])
        self.assertEqual(found, wanted_words(RECURS, paper))
        paper[1]["lone"] = None
        self.assertEqual(wanted(RECURS, paper), wanted_words(RECURS, paper))
        paper[1]["lone"], paper[2]["lone"], paper[3]["lone"] = (["a"], {}, {"a": (1, 0)}), None, [{}, {}, {}]
        self.assertIsNone(wanted(RECURS, paper)[1]["lone"])
        self.assertEqual(wanted(RECURS, paper), wanted_words(RECURS, paper))
        paper = empty_paper(RECURS, paper[0])
        paper[2]["up"] = (["=", "k0", "n0"], {}, {"=": (1, 0), "k0": (1, 0), "n0": (1, 0)})
        self.assertEqual(wanted(RECURS, paper), wanted_words(RECURS, paper))
        self.assertIsNone(pushed(RECURS, [0], paper)[2]["up"])

    def test_taken_just_if_what_is_wanted_lies_within(self):
        source = random.Random(3)
        seen = set()
        for program, ladder, cuts in CASES:
            paper = least_paper(program, ladder, cuts)
            for _ in range(12):
                other = least_paper(program, ladder, cuts)
                for where in source.sample(wheres(other), 2):
                    things, bounds, rests = zone_at(other, where)
                    for pair in list(bounds):
                        if source.random() < 0.3:
                            bounds[pair] += source.randrange(-1, 9)
                    if source.random() < 0.2:
                        put_at(other, where, (things, {}, {thing: (1, 0) for thing in things}))
                taken = judged(program, other) is None
                seen.add(taken)
                self.assertIs(taken, lies_within(wanted(program, other), other))
            self.assertTrue(lies_within(wanted(program, paper), paper))
        self.assertEqual(seen, {True, False})

    def test_least_of_all(self):
        source = random.Random(4)
        for program, ladder, cuts in CASES:
            least = least_paper(program, ladder, cuts)
            for _ in range(3):
                start = empty_paper(program, cuts)
                for where in wheres(least):
                    if source.random() < 0.3:
                        things, bounds, rests = zone_at(least, where)
                        wider = {pair: source.choice([rung for rung in ladder if rung >= bounds[pair]] or [bounds[pair]])
                                 for pair in bounds if source.random() < 0.7}
                        if where[0] == "cell":
                            wider = {pair: bounds[pair] if "0" in pair else wider[pair] for pair in wider}
                        put_at(start, where, (things, wider, {thing: (1, 0) for thing in things}))
                other = grown(program, ladder, start, source)
                self.assertIsNone(judged(program, other))
                self.assertTrue(lies_within(least, other))
            more = sorted({*ladder, -5, 2, 3, 8, 11})
            self.assertTrue(lies_within(least_paper(program, more, cuts), least))

    def test_every_run_lies_in_it(self):
        source = random.Random(5)
        for program, ladder, cuts in CASES + [(random_program(source), [-3, 0, 2, 8], None) for _ in range(6)]:
            paper = least_paper(program, ladder, random_cuts(program, source) if cuts is None else cuts)
            for inputs, _, _ in (all_runs(program, 40, 300) or [])[::5]:
                for state in played(program, inputs, 40)[1]:
                    self.assertIs(lies(program, paper, state), True)

    def test_edges(self):
        paper = least_paper(RECURS, [], {"down": [], "up": [], "main": [], "lone": []})
        self.assertEqual((paper[1]["lone"], paper[2]["lone"], paper[3]["lone"]), (None, None, [{}, {}, {}]))
        self.assertEqual(paper[3]["main"][0][()], (["x", "y"], {}, {"x": (0, 0), "y": (0, 0)}))
        self.assertEqual(paper[2]["down"][2], {"=": (2, 1), "k0": (2, 1), "n0": (1, 0)})
        paper = least_paper(NEVER, [], {"f": [], "main": []})
        self.assertEqual((paper[2], paper[3]["main"][2], paper[3]["f"][6]), ({"f": None, "main": None}, {}, {}))
        nobody = read("def main() { assume 0 == 1; x = 3; return x; }")
        paper = least_paper(nobody, [0], {"main": [("x", 1)]})
        self.assertEqual([sorted(cells) for cells in paper[3]["main"]], [[(0,)], [], [], [], []])
        self.assertEqual(pushes(nobody, [0], {"main": [("x", 1)]}), 2)
        cut = least_paper(SMALL, [], {"main": [("x", 2), ("x", 2 ** 40)]})
        self.assertEqual([sorted(cells) for cells in cut[3]["main"]], [[(0, 0)], [], [(0, 0), (1, 0)], []])
        self.assertEqual(cut[3]["main"][2][(1, 0)][1], {("0", "x"): -2, ("x", "0"): 2 ** 40 - 1})

    def test_empty_paper(self):
        cuts = {"main": [("x", 3), ("y", 3)], "half": [("a", -1)]}
        found = told(self, empty_paper, program=p_program(), cuts=cuts)
        self.assertEqual(shape(found), shape((cuts, {"half": None, "main": None}, {"half": None, "main": None},
                                              {"half": [{}] * 3, "main": [{}] * 14})))
        self.assertIs(is_paper(p_program(), found), True)

    def test_place_zone(self):
        program, ladder, cuts = CASES[7]
        paper = least_paper(program, ladder, cuts)
        for f in cuts:
            for place in range(places(program, f)):
                zone = None
                for row in paper[3][f][place]:
                    zone = joined_words(zone, paper[3][f][place][row])
                found = told(self, place_zone, program=program, paper=paper, f=f, place=place)
                self.assertEqual(found, paper[2][f] if place == 1 else zone)
        self.assertIsNone(place_zone(NEVER, least_paper(NEVER, [], {"f": [], "main": []}), "f", 1))
        self.assertIsNone(place_zone(SMALL, small_paper(), "main", 3))
        self.assertEqual(place_zone(SMALL, small_paper(), "main", 2), (["x"], {("x", "0"): 3, ("0", "x"): 0}, {"x": (1, 0)}))

    def test_great_programs(self):
        names = "abcdefgh"
        text = " ".join(f"{x} = any(0, {30 + at});" for at, x in enumerate(names))
        for x, y in zip(names, names[1:]):
            text += f" while {x} < {y} {{ {x} = {x} + 1; if {y} > 9 {{ {y} = {y} - 1; }} else {{ a = b; }} assert a <= 99; }}"
        program = read(f"def main() {{ {text} return a - b; }}")
        ladder = [-100, -20, -9, -1, 0, 1, 2, 9, 20, 40, 99, 1000]
        paper = least_paper(program, ladder, {"main": [("a", 5), ("b", 9)]})
        self.assertIsNone(judged(program, paper))
        self.assertGreater(pushes(program, ladder, {"main": [("a", 5)]}), 40)

    def test_refusals(self):
        cuts = {"main": []}
        for thing in any_objects():
            if not isinstance(thing, Program):
                for function, others in ((wanted, 1), (empty_paper, 1), (pushed, 2), (least_paper, 2), (pushes, 2),
                                         (place_zone, 3)):
                    refused(self, BadProgram, thing, function, thing, *[None] * others)
            refused(self, BadPaper, thing, wanted, SMALL, thing)
            refused(self, BadPaper, thing, pushed, SMALL, [0], thing)
            refused(self, BadPaper, thing, place_zone, SMALL, thing, None, None)
            if thing != "main":
                refused(self, BadName, thing, place_zone, SMALL, small_paper(), thing, None)
            if type(thing) is not int or not 0 <= thing < 4:
                refused(self, BadPlace, thing, place_zone, SMALL, small_paper(), "main", thing)
            for function, ahead in ((empty_paper, ()), (least_paper, ([0],)), (pushes, ([0],))):
                refused(self, BadCuts, thing, function, SMALL, *ahead, thing)
        for thing in (4, -1, True):
            refused(self, BadPlace, thing, place_zone, SMALL, small_paper(), "main", thing)
        for thing in NOT_LADDERS:
            for function in (pushed, least_paper, pushes):
                refused(self, BadLadder, thing, function, SMALL, thing, None)
        more = [{"main": thing} for thing in NOT_CUTS]
        for thing in [{}, {"main": [], "f": []}, {"f": []}, {"main": [("y", 0)]}, {"main": [("x", 0), ["x", 0]]}, *more]:
            for function, ahead in ((empty_paper, ()), (least_paper, ([0],)), (pushes, ([0],))):
                refused(self, BadCuts, thing, function, SMALL, *ahead, thing)
        told(self, least_paper, program=SMALL, ladder=[0], cuts=cuts)


if __name__ == "__main__":
    unittest.main()

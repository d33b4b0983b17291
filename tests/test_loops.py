"""[17.1] to [17.5]: loops, rankings and their judge."""

import copy
import random
import unittest

from everypath.callsteps import come_back
from everypath.errors import BadLadder, BadName, BadPaper, BadProgram
from everypath.graphs import edges
from everypath.judge import judged
from everypath.ladders import rounded
from everypath.loops import heads, inner_places, leads
from everypath.papers import things_of
from everypath.programs import Program
from everypath.rankings import is_ranking
from everypath.rankjudge import found_ranking, judged_ranking, ranking, rounds_at_most
from everypath.refusals import BadHead, BadRanking, BadRanks, NotRanked, NotTaken
from everypath.runs import played
from everypath.zonemath import join_zones
from everypath.zones import closed, is_below, renamed
from everypath.zonesteps import drawn, most, stepped, when
from tests.helpers import X, any_objects, name, num, p_program, refused, shape, sub, times, told
from tests.samples import all_runs, empty, taken_paper
from tests.test_judge import parted
from tests.test_ladders import NOT_LADDERS
from tests.texts import main_of, program_in

LADDER = [-20, -10, -1, 0, 1, 3, 9, 20]
COUNT = main_of("n = any(0, 9); while n > 0 { n = n - 2; } return n;")
NESTED = main_of("""i = any(0, 3); s = 0; while i > 0 and s >= 0 { i = i - 1; j = 4; while j >= i + 1 { j = j - 1;
                    if j == 2 { print j; } } s = s + 1; } assert s <= 3; return s;""")
CALLS = program_in("""def less(a, b) { return a - b; } def main() { x = any(0, 9); y = 1;
    while x > 0 { if x > 5 { x = x - y; } else { x = less(x, 2); } } while x < 0 { x = x + 1; if x == 5 { return 7; } }
    return x; }""")
TWO = main_of("x = any(0, 3); y = any(0, 3); k = 0; while x >= 0 and y >= 0 { if y > 0 { y = y - 1; k = 0; } else "
              "{ x = x - 1; y = 3; k = 1; } } return x;")
NEVER = main_of("x = any(0, 3); y = 0; while x > 5 { x = x - 1; } while y < x { y = x; } while x < 0 { y = 1; } return y;")
FOREVER = main_of("x = any(0, 3); while x >= 0 { x = x + 1; }")
CASES = (("count", COUNT, {}), ("nested", NESTED, {}), ("nested, cut", NESTED, {"main": [("j", 2), ("i", 1)]}),
         ("calls", CALLS, {"main": [("x", 3)]}), ("two", TWO, {"main": [("k", 1)]}), ("never", NEVER, {}), ("forever", FOREVER, {}))


PAPERS = {}


def paper_of(program, cuts):
    """A paper that the judge takes, made but once, and told anew each time."""
    key = (id(program), str(cuts))
    if key not in PAPERS:
        PAPERS[key] = taken_paper(program, LADDER, cuts)
    return copy.deepcopy(PAPERS[key])


def condition_at(program, head):
    return [edge[2][1] for edge in edges(program, "main") if edge[0] == head][0]


def begun(expression):
    """The expression with x1 for each name x."""
    if expression[0] == "name":
        return ("name", expression[1] + "1")
    return tuple(begun(part) if isinstance(part, tuple) else part for part in expression)


def names_in(expression):
    if expression[0] == "name":
        return {expression[1]}
    return set().union(*[names_in(part) for part in expression if isinstance(part, tuple)])


def demanded(program, paper, head, ranks, cells):
    """(word, place, sides, zone) of all that (1) and (2) of [17.3] demand, straight along its words."""
    cuts, inner, found = paper[0]["main"], inner_places(program, "main", head), []
    names = set().union(*[names_in(rank) for rank in ranks])
    for row in sorted(paper[3]["main"][head]):
        zone = when(paper[3]["main"][head][row], condition_at(program, head))
        drawing = {**{thing: name(thing) for thing in things_of(program, "main")},
                   **{x + "1": name(x) for x in names}}
        found += [(("round", row), head + 1, to, part)
                  for to, part in parted(None if zone is None else drawn(zone, drawing), cuts)]
    for place in inner:
        for row in sorted(cells[place - head - 1]):
            zone = cells[place - head - 1][row]
            for number, (start, end, action) in enumerate(edges(program, "main")):
                if start != place or end not in inner or action[0] == "return":
                    continue
                if action[0] == "call":
                    behind = behind_call(program, zone, action, paper[2][action[2]])
                else:
                    behind = stepped(zone, action)
                found += [(("step", number, row), end, to, part) for to, part in parted(behind, cuts)]
    return found


def behind_call(program, zone, action, end):
    """What comes back to a zone with more things than those of main: the same as if these were names of main."""
    _, x, g, handed = action
    more = Program([("main", [], [("set", thing.replace("1", "one"), num(0)) for thing in zone[0]])]
                   + [function for function in program.functions() if function[0] != "main"])
    turned = {thing: thing.replace("1", "one") for thing in zone[0]}
    back = {other: thing for thing, other in turned.items()}
    behind = come_back(more, "main", renamed(zone, turned), x, g, handed, end)
    return None if behind is None else renamed(behind, back)


def by_the_words(program, paper, head, ranks, cells):
    """What the judge of rankings is to tell."""
    for word, place, row, zone in demanded(program, paper, head, ranks, cells):
        there = cells[place - head - 1].get(row)
        if there is None or not is_below(zone, there):
            return word
    for row in sorted(cells[0]):
        for index, rank in enumerate(ranks):
            if closed(cells[0][row]) is not None and not at_most(cells[0][row], sub(num(0), rank), 0):
                return ("low", row, index)
    last = [edge[0] for edge in edges(program, "main") if edge[1] == head and edge[0] > head][0]
    for row in sorted(cells[last - head - 1]):
        zone = cells[last - head - 1][row]
        changes = [sub(rank, begun(rank)) for rank in ranks]
        if closed(zone) is not None and not any(
                at_most(zone, change, -1) and all(at_most(zone, ahead, 0) for ahead in changes[:at])
                for at, change in enumerate(changes)):
            return ("falls", row)
    return None


def at_most(zone, expression, bound):
    found = most(zone, expression)
    return found is not None and found <= bound


def least_cells(program, paper, head, ranks, ladder):
    """The least cells, straight along [17.5]."""
    cells = [{} for _ in inner_places(program, "main", head)]
    while True:
        found = [{} for _ in cells]
        for _, place, row, zone in demanded(program, paper, head, ranks, cells):
            rows = found[place - head - 1]
            rows[row] = join_zones(rows.get(row), zone)
        found = [{row: with_bounds(rounded(zone, ladder), paper[0]["main"], row) for row, zone in rows.items()}
                 for rows in found]
        if found == cells:
            return cells
        cells = found


def with_bounds(zone, cuts, row):
    for (x, n), side in zip(cuts, row):
        pair, bound = ((x, "0"), n - 1) if side == 0 else (("0", x), -n)
        zone[1][pair] = min(bound, zone[1].get(pair, bound))
    return zone


def goings(program, inputs, head):
    """How often the body of a loop of main begins between two of its comings, or behind the last one; at most."""
    behind, counts = None, [0]
    for state in played(program, inputs, 300)[1]:
        if len(state) > 1:
            continue
        place = state[0][1]
        if place == head and behind not in inner_places(program, "main", head):
            counts.append(0)
        if place == head + 1 and behind == head:
            counts[-1] += 1
        behind = place
    return max(counts)


class LoopsTest(unittest.TestCase):
    def test_example(self):
        lead = ("sub", ("sub", ("name", "n"), ("number", 0)), ("number", 1))
        self.assertEqual(told(self, heads, program=COUNT, f="main"), [3])
        self.assertEqual(told(self, inner_places, program=COUNT, f="main", head=3), [4, 5])
        self.assertEqual(shape(told(self, leads, program=COUNT, f="main", head=3)), shape([lead]))
        paper = taken_paper(COUNT, [-1, 0, 9], {})
        self.assertIsNone(judged(COUNT, paper))
        found = told(self, found_ranking, program=COUNT, paper=paper, f="main", head=3, ladder=[-1, 0, 9])
        self.assertEqual(found[0], [lead])
        self.assertIs(told(self, is_ranking, program=COUNT, paper=paper, f="main", head=3, thing=found), True)
        self.assertIsNone(told(self, judged_ranking, program=COUNT, paper=paper, f="main", head=3, ranking=found))
        self.assertEqual(told(self, rounds_at_most, program=COUNT, paper=paper, f="main", head=3, ranking=found), 9)

    def test_heads(self):
        self.assertEqual(heads(main_of("if 0 < 1 { print 1; }"), "main"), [])
        self.assertEqual(heads(p_program(), "half"), [])
        self.assertEqual(heads(p_program(), "main"), [9])
        self.assertEqual(inner_places(p_program(), "main", 9), [10, 11])
        outer, inner = heads(NESTED, "main")
        self.assertEqual(inner_places(NESTED, "main", outer)[0], outer + 1)
        self.assertTrue(set(inner_places(NESTED, "main", inner)) < set(inner_places(NESTED, "main", outer)))
        self.assertNotIn(inner, inner_places(NESTED, "main", inner))
        for program in (NESTED, CALLS, NEVER, p_program()):
            for f, _, _ in program.functions():
                for head in heads(program, f):
                    within = inner_places(program, f, head)
                    self.assertEqual(within, list(range(head + 1, head + 1 + len(within))))
                    starts = [edge for edge in edges(program, f) if edge[0] == head]
                    self.assertEqual([starts[0][1], starts[1][1]], [within[0], within[-1] + 1])
                    self.assertEqual([edge[2] for edge in edges(program, f) if edge[1] == head and edge[0] in within],
                                     [("skip",)])
        self.assertEqual(inner_places(main_of("while 0 < 1 { }"), "main", 2), [3])
        self.assertEqual(inner_places(main_of("while 0 < 1 { return 3; }"), "main", 2), [3, 4])

    def test_leads(self):
        x, y, one = X, name("y"), num(1)
        for text, found in (
                ("x < y", [sub(sub(y, x), one)]), ("x <= y", [sub(y, x)]), ("x > y", [sub(sub(x, y), one)]),
                ("not x < y", [sub(x, y)]), ("not x <= y", [sub(sub(x, y), one)]), ("x == y", []), ("x != y", []),
                ("x < y or y < x", []), ("not [x < y or y < x]", [sub(x, y), sub(y, x)]),
                ("x < 1 and [y < 2 and not not x <= y]", [sub(sub(one, x), one), sub(sub(num(2), y), one), sub(y, x)]),
                ("x < y and x < y and x <= y", [sub(sub(y, x), one), sub(y, x)]),
                ("[x < y or 0 < x] and x <= y", [sub(y, x)]), ("not [x < y and y < x]", []),
                ("not [x != 1 or x < 0] and 2 * x mod 3 <= y", [sub(x, num(0)), sub(y, ("mod", times(2, x), 3))])):
            program = main_of(f"x = 0; y = 0; while {text} {{ x = x + 1; }}")
            self.assertEqual((text, shape(told(self, leads, program=program, f="main", head=4))), (text, shape(found)))

    def test_refusals(self):
        for thing in any_objects():
            if not isinstance(thing, Program):
                refused(self, BadProgram, thing, heads, thing, None)
                refused(self, BadProgram, thing, inner_places, thing, None, None)
                refused(self, BadProgram, thing, leads, thing, None, None)
            if thing != "main":
                refused(self, BadName, thing, heads, COUNT, thing)
                refused(self, BadName, thing, inner_places, COUNT, thing, None)
                refused(self, BadName, thing, leads, COUNT, thing, None)
            refused(self, BadHead, thing, inner_places, COUNT, "main", thing)
            refused(self, BadHead, thing, leads, COUNT, "main", thing)


class RankingsTest(unittest.TestCase):
    def cases(self):
        for word, program, cuts in CASES:
            paper = paper_of(program, cuts)
            for head in heads(program, "main"):
                yield word, program, paper, head

    def test_least_cells(self):
        for _, program, paper, head in self.cases():
            for ranks in ([X] if program is not NESTED and program is not COUNT else
                          [sub(num(3), name("i" if program is NESTED else "n"))],
                          leads(program, "main", head)[:2]):
                found = told(self, ranking, program=program, paper=paper, f="main", head=head, ranks=ranks, ladder=LADDER)
                self.assertEqual(found, (ranks, least_cells(program, paper, head, ranks, LADDER)))
                self.assertIs(is_ranking(program, paper, "main", head, found), True)
                self.assertEqual(judged_ranking(program, paper, "main", head, found),
                                 by_the_words(program, paper, head, *found))

    def test_found(self):
        taken = {}
        for word, program, paper, head in self.cases():
            found = told(self, found_ranking, program=program, paper=paper, f="main", head=head, ladder=LADDER)
            tries = [[one] for one in leads(program, "main", head)]
            tries += [[one, other] for [one] in tries for [other] in tries if one != other]
            expected = None
            for ranks in tries:
                made = ranking(program, paper, "main", head, ranks, LADDER)
                if expected is None and judged_ranking(program, paper, "main", head, made) is None:
                    expected = made
            self.assertEqual(found, expected)
            taken[(word, head)] = None if found is None else len(found[0])
            if found is not None:
                many = rounds_at_most(program, paper, "main", head, found)
                gone = [goings(program, inputs, head) for inputs, _, _ in all_runs(program, 290, 200)]
                self.assertLessEqual(max(gone), many)
        self.assertEqual(sorted({str(many) for many in taken.values()}), ["1", "2", "None"])

    def test_rounds_at_most(self):
        paper = paper_of(NEVER, {})
        first, second, third = heads(NEVER, "main")
        for head, ranks, many in ((first, [X], 0), (first, [num(0)], 0), (third, [num(0)], 0)):
            made = ranking(NEVER, paper, "main", head, ranks, LADDER)
            self.assertEqual(made[1][0], {})
            self.assertEqual(told(self, rounds_at_most, program=NEVER, paper=paper, f="main", head=head, ranking=made), many)
        found = found_ranking(NEVER, paper, "main", second, LADDER)
        self.assertEqual(rounds_at_most(NEVER, paper, "main", second, found), 3)
        once = main_of("x = 1; while x > 0 { x = x - 1; }")
        paper_of_once = taken_paper(once, [-1, 0, 1], {})
        for rank, many in ((sub(X, num(1)), 1), (X, 2), (sub(times(3, X), num(1)), 3)):
            made = ranking(once, paper_of_once, "main", 3, [rank], [-1, 0, 1])
            self.assertEqual(told(self, rounds_at_most, program=once, paper=paper_of_once, f="main", head=3,
                                  ranking=made), many)
        paper = taken_paper(COUNT, [], {})
        made = ranking(COUNT, paper, "main", 3, [sub(name("n"), num(1))], [-1, 0])
        self.assertIsNone(judged_ranking(COUNT, paper, "main", 3, made))
        self.assertIsNone(rounds_at_most(COUNT, paper, "main", 3, made))
        none_left = (["x", "x1", "y"], {("x", "0"): -1, ("0", "x"): 0}, {thing: (1, 0) for thing in ("x", "x1", "y")})
        self.assertEqual(rounds_at_most(NEVER, paper_of(NEVER, {}), "main", first, ([X], [{(): none_left}, {}])), 0)

    def test_three_ranks(self):
        text = """x = any(0, 2); y = any(0, 2); z = any(0, 2); while x >= 0 and y >= 0 and z >= 0 {
                  if z > 0 { z = z - 1; k = 0; } else {
                  if y > 0 { y = y - 1; z = 2; k = 1; } else { x = x - 1; y = 2; z = 2; k = 2; } } }"""
        program = main_of(text)
        paper = taken_paper(program, [-2, -1, 0, 1, 2], {"main": [("k", 1), ("k", 2)]})
        head = heads(program, "main")[0]
        ranks = [X, name("y"), name("z")]
        made = ranking(program, paper, "main", head, ranks, [-2, -1, 0, 1, 2])
        self.assertIsNone(told(self, judged_ranking, program=program, paper=paper, f="main", head=head, ranking=made))
        self.assertEqual(rounds_at_most(program, paper, "main", head, made), 27)
        self.assertEqual(max(goings(program, run[0], head) for run in all_runs(program, 290, 99)), 27)
        for wrong in ([X, name("z"), name("y")], [name("z")], [X, name("y")], [name("y"), X, name("z")]):
            made = ranking(program, paper, "main", head, wrong, [-2, -1, 0, 1, 2])
            self.assertEqual(judged_ranking(program, paper, "main", head, made)[0], "falls")

    def test_low(self):
        paper = paper_of(COUNT, {})
        made = ranking(COUNT, paper, "main", 3, [sub(name("n"), num(1)), sub(name("n"), num(2))], LADDER)
        self.assertEqual(told(self, judged_ranking, program=COUNT, paper=paper, f="main", head=3, ranking=made),
                         ("low", (), 1))
        self.assertEqual(shape(judged_ranking(COUNT, paper, "main", 3, made)), shape(("low", (), 1)))
        with self.assertRaises(NotRanked) as caught:
            rounds_at_most(COUNT, paper, "main", 3, made)
        self.assertEqual(shape(caught.exception.why), shape(("low", (), 1)))

    def test_what_is_not_inner_is_not_asked(self):
        paper = paper_of(CALLS, {"main": [("x", 3)]})
        second = heads(CALLS, "main")[1]
        made = found_ranking(CALLS, paper, "main", second, LADDER)
        self.assertIsNotNone(made)
        returns = [edge[0] for edge in edges(CALLS, "main") if edge[2] == ("return", num(7))]
        self.assertIn(returns[0], inner_places(CALLS, "main", second))

    def test_each_change(self):
        seen = set()
        source = random.Random(7)
        for word, program, paper, head in self.cases():
            found = found_ranking(program, paper, "main", head, LADDER)
            if found is None or word == "nested":
                continue
            for place, rows in enumerate(found[1]):
                for row in sorted(rows)[:1]:
                    for change in (self.unranked, *source.sample(
                            (self.taken_away, self.narrowed, self.moved, self.emptied), 2)):
                        thing = copy.deepcopy(found)
                        change(thing[1][place], row, source)
                        if not is_ranking(program, paper, "main", head, thing):
                            continue
                        told_word = judged_ranking(program, paper, "main", head, thing)
                        self.assertEqual(shape(told_word), shape(by_the_words(program, paper, head, *thing)))
                        if told_word is not None:
                            seen.add(told_word[0])
                            with self.assertRaises(NotRanked) as caught:
                                rounds_at_most(program, paper, "main", head, thing)
                            self.assertEqual(caught.exception.why, told_word)
        self.assertLessEqual({"round", "step", "falls"}, seen)

    def taken_away(self, rows, row, _):
        del rows[row]

    def narrowed(self, rows, row, source):
        bounds = rows[row][1]
        if bounds:
            bounds[source.choice(sorted(bounds))] -= 3

    def moved(self, rows, row, source):
        bounds = rows[row][1]
        if bounds:
            del bounds[source.choice(sorted(bounds))]

    def unranked(self, rows, row, _):
        for pair in [pair for pair in rows[row][1] if "1" in pair[0] + pair[1]]:
            del rows[row][1][pair]

    def emptied(self, rows, row, _):
        thing = rows[row][0][0]
        rows[row][1][(thing, "0")], rows[row][1][("0", thing)] = -1, 0

    def test_is_ranking(self):
        paper = paper_of(COUNT, {"main": [("n", 4)]})
        made = ranking(COUNT, paper, "main", 3, [name("n")], LADDER)
        full = made[1][0][(1,)]
        self.assertIs(is_ranking(COUNT, paper, "main", 3, made), True)
        self.assertIs(is_ranking(COUNT, paper, "main", 3, (made[0], [{}, {}])), True)
        rests = {"n": (1, 0)}
        for thing in any_objects() + [
                (made[0], made[1][:1]), (made[0], made[1] + [{}]), ([], made[1]), ([X], made[1]), ([None], made[1]),
                (name("n"), made[1]), ([num(3)], made[1]), ([num(3)], [{(1,): (["n"], {}, rests)}, {}, {}]),
                (made[0], [{(): full}, {}]), (made[0], [{(1, 1): full}, {}]), (made[0], [{(2,): full}, {}]),
                (made[0], [{(True,): full}, {}]), (made[0], [{1: full}, {}]), (made[0], [{(1,): None}, {}]),
                (made[0], [{(1,): (["n"], {}, rests)}, {}]), (made[0], [None, {}]), (made[0], {0: {}, 1: {}}),
                (made[0], [{(1,): (["n", "n0"], {}, {"n": (1, 0), "n0": (1, 0)})}, {}]), (*made, 1), made[:1]]:
            self.assertIs(is_ranking(COUNT, paper, "main", 3, thing), False)
            refused(self, BadRanking, thing, judged_ranking, COUNT, paper, "main", 3, thing)
            refused(self, BadRanking, thing, rounds_at_most, COUNT, paper, "main", 3, thing)
        self.assertIs(is_ranking(COUNT, paper, "main", 3, ([num(3)], [{(1,): (["n"], {}, rests)}, {}])), True)

    def test_refusals(self):
        paper = paper_of(COUNT, {})
        wrong = copy.deepcopy(paper)
        wrong[2]["main"] = None
        why = judged(COUNT, wrong)
        for function, many in ((is_ranking, 1), (judged_ranking, 1), (rounds_at_most, 1), (ranking, 2), (found_ranking, 1)):
            nothing = [None] * many
            for thing in any_objects():
                if not isinstance(thing, Program):
                    refused(self, BadProgram, thing, function, thing, None, None, None, *nothing)
                refused(self, BadPaper, thing, function, COUNT, thing, None, None, *nothing)
                if thing != "main":
                    refused(self, BadName, thing, function, COUNT, paper, thing, None, *nothing)
                refused(self, BadHead, thing, function, COUNT, paper, "main", thing, *nothing)
            for thing in (wrong, empty(COUNT, {})):
                with self.assertRaises(NotTaken) as caught:
                    function(COUNT, thing, None, None, *nothing)
                self.assertEqual(shape(caught.exception.why), shape(judged(COUNT, thing)))
        self.assertEqual(why[0][0], "return")
        for thing in any_objects() + [[X], [name("n"), None], [name("n1")]]:
            refused(self, BadRanks, thing, ranking, COUNT, paper, "main", 3, thing, None)
        for thing in NOT_LADDERS:
            refused(self, BadLadder, thing, ranking, COUNT, paper, "main", 3, [name("n")], thing)
            refused(self, BadLadder, thing, found_ranking, COUNT, paper, "main", 3, thing)


if __name__ == "__main__":
    unittest.main()

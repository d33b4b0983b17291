"""[16.5], [16.6], and the example [16.8] whole: sliced programs."""

import random
import unittest

from everypath.errors import BadProgram
from everypath.feeds import fed, visits
from everypath.graphs import assertions, edges
from everypath.programs import Program
from everypath.reading import read
from everypath.refusals import BadEdge, BadEdges
from everypath.runs import played
from everypath.slices import is_closed, slice_of
from everypath.thinning import sliced
from everypath.verdicts import verdict
from everypath.writing import written
from tests.helpers import any_objects, listed, refused, shape
from tests.layings import Laying, names_in, set_by, used
from tests.test_feeds import NOT_EDGES, OFTEN, TWO, anys
from tests.test_slices import RETURNS, all_edges, programs


def kept_statements(statements, laying, f, there, path=()):
    """Pairs (path, statement) of what stays, along the words; a statement with parts has such pairs within it."""
    found = []
    for at, statement in enumerate(statements):
        here = (*path, at)
        own = [k for k, maker in enumerate(laying.makers) if maker == here]
        whens = [k for k in own if laying.edges[k][2][0] == "when"]
        if statement[0] in ("if", "while"):
            if any((f, k) in there for k in whens):
                inner = [kept_statements(part, laying, f, there, (*here, to)) for to, part in enumerate(statement[2:])]
                found.append((here, (*statement[:2], *inner)))
        elif statement[0] == "return" or (f, own[0]) in there:
            found.append((here, statement))
    return found


def plain_statements(kept):
    return [(*statement[:2], *[plain_statements(part) for part in statement[2:]])
            if statement[0] in ("if", "while") else statement for _, statement in kept]


def zeros(tree, lost):
    if isinstance(tree, tuple) and len(tree) == 2 and tree[0] == "name":
        return ("number", 0) if tree[1] in lost else tree
    if isinstance(tree, (list, tuple)):
        return type(tree)([zeros(part, lost) for part in tree])
    return tree


def paths_of(kept, path=()):
    """For each path of a statement in what is left the path that it had."""
    found = {}
    for at, (before, statement) in enumerate(kept):
        found[(*path, at)] = before
        if statement[0] in ("if", "while"):
            for to, part in enumerate(statement[2:]):
                found.update(paths_of(part, (*path, at, to)))
    return found


def thinned_words(program, closed):
    """(functions, moved) along the words of [16.5]."""
    there, functions, moved = {tuple(edge) for edge in closed}, [], {}
    for f, params, statements in program.functions():
        if f != "main" and not any(g == f for g, _ in there):
            continue
        laying = Laying(statements)
        kept = kept_statements(statements, laying, f, there)
        left = plain_statements(kept)
        again = Laying(left)
        lost = set().union(*[names_in(edge[2][1:]) for edge in again.edges]) - set(params) - {set_by(edge[2]) for edge in again.edges}
        functions.append((f, params, zeros(left, lost)))
        before = {**paths_of(kept), None: None}
        for maker in {maker for maker in again.makers}:
            old = [k for k, other in enumerate(laying.makers) if other == before[maker]]
            new = [k for k, other in enumerate(again.makers) if other == maker]
            moved.update({(f, k): (f, n) for k, n in zip(old, new) if (f, k) in there})
    return functions, moved


class ThinningTest(unittest.TestCase):
    def test_example(self):
        edge = ("main", 9)
        closed = slice_of(TWO, edge)
        thinner, moved = sliced(program=TWO, edge=edge, edges=closed)
        self.assertEqual(thinner, read("def main() { x = any ( 0 , 9 ) ; n = 0 ; while n < x { n = n + 1 ; } assert n <= 9 ; }"))
        self.assertEqual(moved, {("main", old): ("main", new) for old, new in ((0, 0), (2, 1), (4, 3), (5, 4), (8, 6), (9, 7))})
        self.assertEqual(fed(TWO, {("main", 0): [2], ("main", 1): [7]}, 99), [2, 7])
        self.assertEqual(fed(thinner, {("main", 0): [2]}, 99), [2])
        self.assertEqual(visits(thinner, ("main", 3), ["n", "x"], [2], 99), [(0, 2), (1, 2), (2, 2)])

    def test_by_the_words(self):
        source = random.Random(1)
        for program in programs(1, 15):
            every = all_edges(program)
            for edge in source.sample(every, 6) + [every[-1]]:
                closed = slice_of(program, edge)
                more = [other for other in every if other in closed or source.random() < 0.2]
                for edges_told in [closed, every] + ([more] if is_closed(program, edge, more) else []):
                    thinner, moved = sliced(program, edge, edges_told)
                    functions, expected = thinned_words(program, edges_told)
                    self.assertEqual(thinner, Program(functions))
                    self.assertEqual(shape(moved), shape(expected))
                    self.assertEqual(sorted(moved), sorted(edges_told))
                    for old, new in moved.items():
                        one, two = edges(program, old[0])[old[1]][2], edges(thinner, new[0])[new[1]][2]
                        self.assertEqual((one[0], set_by(one)), (two[0], set_by(two)))

    def test_all_edges(self):
        for program in programs(2, 6):
            every = all_edges(program)
            thinner, moved = sliced(program, every[0], every)
            self.assertEqual(thinner, program)
            self.assertEqual(moved, {edge: edge for edge in every})
            self.assertEqual(sliced(program, every[0], listed(every[::-1])), (program, moved))

    def test_edges_of_the_document(self):
        thinner, moved = sliced(RETURNS, ("main", 1), slice_of(RETURNS, ("main", 1)))
        self.assertEqual(written(thinner), "def main ( ) { y = any ( 0 , 9 ) ; return 0 ; }")
        self.assertEqual(moved, {("main", 1): ("main", 0)})
        alone = read("def f(a) { b = any(0, a + 1); } def main() { x = 3; return x; }".replace("a + 1", "1"))
        closed = slice_of(alone, ("f", 0))
        self.assertEqual(closed, [("f", 0)])
        thinner, moved = sliced(alone, ("f", 0), closed)
        self.assertEqual(written(thinner), "def f ( a ) { b = any ( 0 , 1 ) ; } def main ( ) { return 0 ; }")
        self.assertEqual(moved, {("f", 0): ("f", 0)})
        last = read("def main() { x = any(0, 3); if x < 2 { y = 1; } }")
        skip = ("main", 4)
        self.assertEqual(edges(last, "main")[4][2], ("skip",))
        thinner, moved = sliced(last, skip, slice_of(last, skip))
        self.assertEqual(written(thinner), "def main ( ) { x = any ( 0 , 3 ) ; if x < 2 { } }")
        self.assertEqual(moved, {("main", 0): ("main", 0), ("main", 1): ("main", 1), ("main", 3): ("main", 2), ("main", 4): ("main", 3)})
        end = ("main", 6)
        thinner, moved = sliced(last, end, slice_of(last, end))
        self.assertEqual((written(thinner), moved), ("def main ( ) { }", {end: ("main", 0)}))
        unset = read("def f(p, q) { q = k + p; k = 3; print q; } def main() { z = f(1, 2); z = f(z, z); assert z == 0; }")
        thinner, _ = sliced(unset, ("f", 0), slice_of(unset, ("f", 0)))
        self.assertEqual(written(thinner), "def f ( p , q ) { q = 0 + p ; } def main ( ) { z = f ( 1 , 2 ) ; z = f ( z , z ) ; }")

    def test_rows_are_kept(self):
        source = random.Random(3)
        longer = 0
        for program in programs(3, 25):
            every = all_edges(program)
            for edge in source.sample(every, 5):
                f, number = edge
                closed = slice_of(program, edge)
                whole = sorted(every) if source.random() < 0.2 else closed
                thinner, moved = sliced(program, edge, whole)
                names = sorted(used(edges(program, f)[number][2]))
                for _ in range(3):
                    feeds = {part: [source.randrange(-3, 5) for _ in range(source.randrange(6))] for part in anys(program)}
                    fewer = {moved[part]: feeds[part] for part in feeds if part in moved}
                    steps = source.choice((5, 30, 80))
                    one = visits(program, edge, names, fed(program, feeds, steps), steps)
                    two = visits(thinner, moved[edge], names, fed(thinner, fewer, steps), steps)
                    self.assertEqual(two[:len(one)], one)
                    longer += len(two) > len(one)
                    self.check_states(program, thinner, moved, feeds, fewer, steps)
        self.assertGreater(longer, 5)

    def check_states(self, program, thinner, moved, feeds, fewer, steps):
        """That all states at edges of the list are a beginning of those of the thinner program."""
        one = self.met_states(program, {edge: edge for edge in moved}, fed(program, feeds, steps), steps)
        back = {new: old for old, new in moved.items()}
        two = self.met_states(thinner, back, fed(thinner, fewer, steps), steps, program)
        self.assertEqual(two[:len(one)], one)

    def met_states(self, program, called, inputs, steps, whole=None):
        """(edge as it is called in the whole, values of what it uses there) of the states at these edges."""
        whole = whole or program
        found = []
        for state in played(program, inputs, steps)[1]:
            here = [[called[(f, k)] for k, edge in enumerate(edges(program, f)) if edge[0] == place and (f, k) in called]
                    for f, place, _ in state]
            if all(here):
                f, k = here[-1][0]
                names = sorted(used(edges(whole, f)[k][2]))
                found.append(((f, k), [state[-1][2].get(name, 0) for name in names]))
        return found

    def test_what_no_run_of_the_thinner_one_breaks(self):
        program = read("""def noise(a) { while a > 0 { a = a - 1; print a; } return a; } def main() { x = any(0, 5); y = any(0, 900);
                          z = noise(y); while x > 0 { x = x - 1; y = y + z; } assert x == 0; return y; }""")
        (edge,) = assertions(program)
        thinner, moved = sliced(program, edge, slice_of(program, edge))
        self.assertEqual([f for f, _, _ in thinner.functions()], ["main"])
        cuts = {"main": []}
        found = verdict(thinner, moved[edge], [], cuts, 0, 60, 30)
        self.assertEqual(found[0], "safe")
        for inputs in ([3, 2], [0, 0], [5, 4]):
            self.assertEqual(played(program, inputs, 90)[0][0], "ends")

    def test_refusals(self):
        edge = ("main", 9)
        closed = slice_of(TWO, edge)
        for thing in any_objects():
            if not isinstance(thing, Program):
                refused(self, BadProgram, thing, sliced, thing, None, None)
            refused(self, BadEdge, thing, sliced, TWO, thing, None)
            refused(self, BadEdges, thing, sliced, TWO, edge, thing)
            refused(self, BadEdges, (wrong := [*closed, thing]), sliced, TWO, edge, wrong)
        for thing in NOT_EDGES:
            refused(self, BadEdge, thing, sliced, TWO, thing, None)
        for at in range(len(closed)):
            refused(self, BadEdges, (wrong := closed[:at] + closed[at + 1:]), sliced, TWO, edge, wrong)
        refused(self, BadEdges, (wrong := [*closed, closed[2]]), sliced, TWO, edge, wrong)
        refused(self, BadEdges, (wrong := slice_of(TWO, ("main", 0))), sliced, TWO, edge, wrong)
        found = sliced(OFTEN, ("main", 1), slice_of(OFTEN, ("main", 1)))
        self.assertEqual(shape(found[1]), shape(sliced(OFTEN, ["main", 1], tuple(slice_of(OFTEN, ("main", 1))))[1]))


if __name__ == "__main__":
    unittest.main()

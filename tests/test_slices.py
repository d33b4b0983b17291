"""[16.3], [16.4], [16.7] and what the example [16.8] says of them: ways, slices, secrets."""

import random
import unittest

from everypath.errors import BadName, BadOther, BadPlace, BadProgram
from everypath.feeds import fed, visits
from everypath.graphs import edges, places
from everypath.programs import Program, names_of
from everypath.reading import read
from everypath.refusals import BadEdge, BadSecrets, BadVariable
from everypath.secrets import hangs_on, is_open
from everypath.slices import chain, is_closed, slice_of
from everypath.ways import hanging, reaching
from tests.helpers import any_objects, p_program, refused, shape, told
from tests.layings import asked_words, hanging_words, layings, reaching_words, slice_words, used
from tests.test_feeds import NOT_EDGES, OFTEN, TWO, anys
from tests.test_leastpapers import RECURS
from tests.test_paths import random_program

RETURNS = read("""def f(a, b) { if a < b { return a; } while b > 0 { b = b - 1; if b == 3 { a = b; return a + 1; } } return 2; }
                  def main() { x = any(0, 9); y = any(0, 9); if x > y { z = f(x, y); } else { print y; } w = f(y, 3);
                               assume w < 20; return z; print w; }""")
PROGRAMS = [TWO, OFTEN, RECURS, RETURNS]


def all_edges(program):
    return [(f, number) for f, _, _ in program.functions() for number in range(len(edges(program, f)))]


def programs(seed, many=12):
    source = random.Random(seed)
    return PROGRAMS + [p_program()] + [random_program(source) for _ in range(many)]


class WaysTest(unittest.TestCase):
    def test_by_the_words(self):
        for program in programs(1):
            for f, laying in layings(program).items():
                self.assertEqual(laying.edges, edges(program, f))
                for place in range(places(program, f)):
                    self.assertEqual(hanging(program, f, place), hanging_words(laying, place))
                    for name in names_of(program, f):
                        self.assertEqual(reaching(program, f, place, name), reaching_words(laying, place, name))

    def test_reaching(self):
        self.assertEqual(told(self, reaching, program=TWO, f="main", place=5, variable="n"), [2, 5])
        self.assertEqual(told(self, reaching, program=TWO, f="main", place=0, variable="n"), [])
        self.assertEqual(reaching(TWO, "main", 2, "x"), [0])
        self.assertEqual(reaching(TWO, "main", 9, "y"), [1, 6])
        twice = read("def main() { x = 1; x = 2; return x; x = 3; print x; }")
        self.assertEqual([reaching(twice, "main", place, "x") for place in range(7)], [[], [1, 3], [0], [1], [], [3], [3]])

    def test_hanging(self):
        self.assertEqual(told(self, hanging, program=TWO, f="main", place=6), [5])
        self.assertEqual(told(self, hanging, program=TWO, f="main", place=5), [5])
        for place in (0, 1, 2, 3, 4, 9, 10):
            self.assertEqual(hanging(TWO, "main", place), [])
        nested = read("def main() { x = any(0, 3); if x < 2 { while x > 0 { return x; } print x; } else { x = 1; } return 0; }")
        self.assertEqual([hanging(nested, "main", place) for place in range(places(nested, "main"))],
                         [hanging_words(layings(nested)["main"], place) for place in range(places(nested, "main"))])
        self.assertEqual(hanging(nested, "main", 4), [2])

    def test_refusals(self):
        for thing in any_objects():
            if not isinstance(thing, Program):
                refused(self, BadProgram, thing, reaching, thing, None, None, None)
                refused(self, BadProgram, thing, hanging, thing, None, None)
            if thing != "main":
                refused(self, BadName, thing, reaching, TWO, thing, None, None)
                refused(self, BadName, thing, hanging, TWO, thing, None)
            if type(thing) is not int or not 0 <= thing < 11:
                refused(self, BadPlace, thing, reaching, TWO, "main", thing, None)
                refused(self, BadPlace, thing, hanging, TWO, "main", thing)
            if thing != "x":
                refused(self, BadVariable, thing, reaching, TWO, "main", 0, thing)
        for thing in (11, -1, True):
            refused(self, BadPlace, thing, hanging, TWO, "main", thing)
        refused(self, BadVariable, "z", reaching, TWO, "main", 0, "z")


class SlicesTest(unittest.TestCase):
    def test_example(self):
        edge = ("main", 9)
        found = told(self, slice_of, program=TWO, edge=edge)
        self.assertEqual(shape(found), shape([("main", number) for number in (0, 2, 4, 5, 8, 9)]))
        self.assertIs(told(self, is_closed, program=TWO, edge=edge, thing=found), True)
        self.assertEqual(shape(told(self, hangs_on, program=TWO, edge=edge)), shape([("main", 0)]))

    def test_slices_by_the_words(self):
        for program in programs(2):
            laid = layings(program)
            for edge in all_edges(program)[::2]:
                expected = slice_words(program, laid, edge)
                found = slice_of(program, edge)
                self.assertEqual(found, expected)
                self.assertEqual(hangs_on(program, edge), [part for part in found if part in anys(program)])

    def test_closed_lists(self):
        source = random.Random(3)
        larger = 0
        for program in programs(3, 6):
            laid = layings(program)
            every = all_edges(program)
            for edge in source.sample(every, 6):
                found = slice_of(program, edge)
                self.assertIs(is_closed(program, edge, every), True)
                for part in found:
                    self.assertIs(is_closed(program, edge, [other for other in found if other != part]), False)
                for _ in range(6):
                    some = found + [other for other in source.sample(every, 3) if other not in found]
                    source.shuffle(some)
                    closed = all(asked_words(program, laid, edge, part) <= set(some) for part in some)
                    larger += closed and len(some) > len(found)
                    self.assertIs(is_closed(program, edge, some), closed)
                    whole = set(some)
                    while True:
                        more = whole.union(*[asked_words(program, laid, edge, part) for part in whole])
                        if more == whole:
                            break
                        whole = more
                    self.assertIs(is_closed(program, edge, sorted(whole)), True)
                    self.assertLessEqual(set(found), whole)
        self.assertGreater(larger, 5)

    def test_what_is_no_closed_list(self):
        edge = ("main", 9)
        found = slice_of(TWO, edge)
        self.assertIs(is_closed(TWO, edge, [list(part) for part in found][::-1]), True)
        for thing in [found + [found[0]], found + [list(found[0])], [], found[:-1], found + [("main", 11)], found + [("f", 0)],
                      found + [None], found + [("main", True)], {part: True for part in found}, set(found), str(found)]:
            self.assertIs(is_closed(TWO, edge, thing), False)
        for thing in any_objects():
            self.assertIs(is_closed(TWO, edge, thing), False)
            self.assertIs(is_closed(TWO, edge, [*found, thing]), False)
            self.assertIs(is_closed(TWO, edge, [thing]), False)

    def test_chains(self):
        for program in programs(4, 5):
            laid = layings(program)
            every = all_edges(program)
            for edge in every[::4]:
                steps = {edge: 0}
                row = [edge]
                for part in row:
                    for other in sorted(asked_words(program, laid, edge, part)):
                        if other not in steps:
                            steps[other] = steps[part] + 1
                            row.append(other)
                for other in every:
                    found = chain(program, edge, other)
                    if other not in steps:
                        self.assertIsNone(found)
                        continue
                    self.assertEqual((found[0], found[-1], len(found)), (edge, other, steps[other] + 1))
                    for one, two in zip(found, found[1:]):
                        self.assertIn(two, asked_words(program, laid, edge, one))
        self.assertEqual(shape(told(self, chain, program=TWO, edge=("main", 9), other=("main", 9))), shape([("main", 9)]))
        self.assertEqual(shape(told(self, chain, program=TWO, edge=("main", 9), other=("main", 5))), shape([("main", 9), ("main", 5)]))
        self.assertIsNone(told(self, chain, program=TWO, edge=("main", 9), other=("main", 6)))

    def test_feeds_alike_where_it_hangs(self):
        source = random.Random(5)
        unlike = 0
        for program in programs(5, 25):
            for edge in source.sample(all_edges(program), 5):
                f, number = edge
                names = sorted(used(edges(program, f)[number][2]))
                on = hangs_on(program, edge)
                for _ in range(3):
                    one = {part: [source.randrange(-3, 5) for _ in range(4)] for part in anys(program)}
                    two = {part: one[part] if part in on else [source.randrange(-3, 5) for _ in range(source.randrange(5))]
                           for part in one}
                    rows = [visits(program, edge, names, fed(program, feeds, steps), steps)
                            for feeds, steps in ((one, 60), (two, source.choice((60, 25))))]
                    least = min(len(row) for row in rows)
                    self.assertEqual(rows[0][:least], rows[1][:least])
                    unlike += rows[0] != rows[1]
        self.assertGreater(unlike, 5)

    def test_is_open(self):
        edge = ("main", 9)
        for secrets, found in (([], True), ([("main", 0)], False), ([("main", 1)], True), ([("main", 1), ("main", 0)], False)):
            self.assertIs(told(self, is_open, program=TWO, secrets=secrets, edge=edge), found)
        self.assertIs(is_open(TWO, [["main", 0]], ("main", 1)), True)
        self.assertIs(is_open(TWO, [["main", 1]], ["main", 10]), True)
        for program in programs(6, 5):
            for other in all_edges(program)[::3]:
                on = hangs_on(program, other)
                for secret in anys(program):
                    self.assertIs(is_open(program, [secret], other), secret not in on)
                self.assertIs(is_open(program, anys(program), other), on == [])

    def test_refusals(self):
        for thing in any_objects():
            if not isinstance(thing, Program):
                for function, many in ((is_closed, 2), (slice_of, 1), (chain, 2), (hangs_on, 1), (is_open, 2)):
                    refused(self, BadProgram, thing, function, thing, *[None] * many)
            for function, behind in ((is_closed, (None,)), (slice_of, ()), (chain, (None,)), (hangs_on, ())):
                refused(self, BadEdge, thing, function, TWO, thing, *behind)
            refused(self, BadOther, thing, chain, TWO, ("main", 0), thing)
            refused(self, BadEdge, thing, is_open, TWO, [], thing)
            if thing not in ([], ()):
                refused(self, BadSecrets, thing, is_open, TWO, thing, None)
                refused(self, BadSecrets, (wrong := [("main", 0), thing]), is_open, TWO, wrong, None)
        for thing in NOT_EDGES:
            for function, behind in ((is_closed, (None,)), (slice_of, ()), (chain, (None,)), (hangs_on, ())):
                refused(self, BadEdge, thing, function, TWO, thing, *behind)
            refused(self, BadOther, thing, chain, TWO, ("main", 0), thing)
            refused(self, BadEdge, thing, is_open, TWO, [], thing)
        for wrong in ([("main", 2)], [("main", 0), ["main", 0]], [("main", 0), ("main", 0)], [("main", 11)], ("main", 0)):
            refused(self, BadSecrets, wrong, is_open, TWO, wrong, None)


if __name__ == "__main__":
    unittest.main()
